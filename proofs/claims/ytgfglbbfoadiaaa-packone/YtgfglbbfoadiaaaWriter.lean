import Derived.Test.YtgfglbbfoadiaaaBase
namespace Go.Proofs.Ytgfglbbfoadiaaa
open Go.RowKit

theorem heap_set {w : World} {B : Nat} {cs : Array Value} {t : TypeId} {fr : Nat × Nat} (h : w.heap[B]? = some (.cells cs t fr)) (i : Nat) (u : Value) : (w.setCell ⟨B, i, none⟩ u).heap[B]? = some (.cells (cs.setIfInBounds i u) t fr) := by
  simp only [World.setCell, Array.getElem?_modify]
  rw [h]; rfl

/-- A writer: its first error, its data, what this reads as. -/
structure IsW (w : World) (B : Nat) (e : Int) (v : Value) (l : List Nat) : Prop where
  blk : w.heap[B]? = some (.cells #[.int .i64 e, v] 68 (0, 0))
  own : w.ownsRow 0 5 1 v l.length (cellsOf l)
  bytes : ∀ c ∈ l, c < 256
theorem own_ne {w : World} {base B : Nat} {cs : Array Value} {t e : TypeId} {fr : Nat × Nat} {v : Value} {n size : Nat} {xs : List Value} (hb : w.heap[B]? = some (.cells cs t fr)) (ho : w.ownsRow base e size v n xs) (hte : t ≠ e) : v.ownBlock ≠ some B := by
  rcases ho.2 with ⟨rfl, _⟩ | ⟨g, cap, cur, rfl, _, hg, _⟩
  · simp [Value.ownBlock]
  · intro q
    simp [Value.ownBlock] at q
    subst q
    rw [hg] at hb
    simp at hb
    exact hte hb.2.1.symm
theorem IsW.apart {w : World} {B : Nat} {e : Int} {v : Value} {l : List Nat} (h : IsW w B e v l) : v.ownBlock ≠ some B := own_ne h.blk h.own (by decide)
theorem IsW.kept {S : Nat → Prop} {w w' : World} {B : Nat} {e : Int} {v : Value} {l : List Nat} (h : IsW w B e v l) (k : Kept S w w') (h1 : ¬ S B) (h2 : ∀ j, v.ownBlock = some j → ¬ S j) : IsW w' B e v l :=
  ⟨k.get h.blk h1, k.owns h.own h2, h.bytes⟩
theorem IsW.err {w : World} {B : Nat} {e : Int} {v : Value} {l : List Nat} (h : IsW w B e v l) : w.cell? ⟨B, 0, none⟩ = some (.int .i64 e) := cell_blk h.blk 0 rfl
theorem IsW.dat {w : World} {B : Nat} {e : Int} {v : Value} {l : List Nat} (h : IsW w B e v l) : w.cell? ⟨B, 1, none⟩ = some v := cell_blk h.blk 1 rfl

/-- What a writer may write to. -/
def wfoot (B : Nat) (v : Value) : Nat → Prop := fun k => k = B ∨ v.ownBlock = some k
/-- The new row is the old one, or newly made. -/
def Near (w : World) (v v' : Value) : Prop := ∀ k, v'.ownBlock = some k → v.ownBlock = some k ∨ w.heap.size ≤ k
structure Put (w : World) (B : Nat) (v : Value) (w' : World) (e : Int) (v' : Value) (l' : List Nat) : Prop where
  isW : IsW w' B e v' l'
  kept : Kept (wfoot B v) w w'
  near : Near w v v'
theorem Put.refl {w : World} {B : Nat} {e : Int} {v : Value} {l : List Nat} (h : IsW w B e v l) : Put w B v w e v l := ⟨h, Kept.refl _ _, fun _ q => .inl q⟩
theorem Put.trans {w w1 w2 : World} {B : Nat} {e1 e2 : Int} {v v1 v2 : Value} {l1 l2 : List Nat} (h : Put w B v w1 e1 v1 l1) (k : Put w1 B v1 w2 e2 v2 l2) : Put w B v w2 e2 v2 l2 := by
  have hs := h.kept.size
  refine ⟨k.isW, h.kept.trans k.kept (fun j hj q => ?_), fun j q => ?_⟩
  · rcases q with q | q
    · exact .inl q
    · rcases h.near j q with r | r
      · exact .inr r
      · omega
  · rcases k.near j q with r | r
    · exact h.near j r
    · exact .inr (by omega)
theorem Put.step {w w0 w1 : World} {B : Nat} {e : Int} {v v' : Value} {l k : List Nat} {m : Nat} (h : IsW w B e v l) (q : Kept (fun _ => False) w w0) (ho : w1.ownsRow 0 5 1 v' (l.length + m) (cellsOf (l ++ k))) (kb : ∀ c ∈ k, c < 256)
    (g : w0.grownBy w1 v.ownBlock) (nr : v'.ownBlock = v.ownBlock ∨ v'.ownBlock = some w0.heap.size) : Put w B v (w1.setCell ⟨B, 1, none⟩ v') e v' (l ++ k) := by
  have hm : (l ++ k).length = l.length + m := by have := ho.1; rw [cellsOf_length] at this; omega
  have k1 : Kept (fun j => v.ownBlock = some j) w w1 := (q.mono (fun _ _ f => f.elim)).grown g (fun _ _ e => e)
  have b1 : w1.heap[B]? = some (.cells #[.int .i64 e, v] 68 (0, 0)) := k1.get h.blk h.apart
  have ap : v'.ownBlock ≠ some B := own_ne b1 ho (by decide)
  refine ⟨⟨heap_set b1 1 v', ?_, fun c hc => ?_⟩, ?_, fun j hj => ?_⟩
  · have k2 : Kept (fun j => j = B) w1 (w1.setCell ⟨B, 1, none⟩ v') := (Kept.refl (fun j => j = B) w1).setCell (p := ⟨B, 1, none⟩) (fun _ => rfl) v'
    rw [hm]
    exact k2.owns ho (fun j hj hjB => ap (hjB ▸ hj))
  · rcases List.mem_append.1 hc with r | r
    · exact h.bytes c r
    · exact kb c r
  · exact (k1.mono (S' := wfoot B v) (fun j _ r => .inr r)).setCell (fun _ => .inl rfl) v'
  · rcases nr with r | r
    · exact .inl (r ▸ hj)
    · rw [r] at hj
      cases hj
      exact .inr q.size
theorem Put.cell {w w0 w1 : World} {B : Nat} {e : Int} {v : Value} {l : List Nat} (h : IsW w B e v l) (q : Kept (fun _ => False) w w0) (g : w0.grownBy w1 v.ownBlock) : w1.cell? ⟨B, 1, none⟩ = some v ∧ w1.frozen? ⟨B, 1, none⟩ = false := by
  have k1 : Kept (fun j => v.ownBlock = some j) w w1 := (q.mono (fun _ _ f => f.elim)).grown g (fun _ _ e => e)
  have b1 := k1.get h.blk h.apart
  exact ⟨cell_blk b1 1 rfl, soft_blk b1 1⟩

theorem newWriter (w : World) : Calls Try.prog 9 #[] w fun e w' => e = .returned (.pointer (some ⟨w.heap.size, 0, none⟩)) ∧ w' = w.alloc (.cells #[.int .i64 0, .slice none 0 0] 68) := by
  go_enter Try.func9, Try.ntmps9
  go_wp2
  go_ret
  exact ⟨rfl, rfl⟩
theorem IsW.new (w : World) : IsW (w.alloc (.cells #[.int .i64 0, .slice none 0 0] 68)) w.heap.size 0 (.slice none 0 0) [] :=
  ⟨heap_alloc_new w _, World.ownsRow_nil _ _ _ _, fun _ h => absurd h (by simp)⟩
theorem stopped_any (B : Nat) (e : Int) (v : Value) (w : World) (h : w.heap[B]? = some (.cells #[.int .i64 e, v] 68 (0,0))) (b : Bool) (hb : (e != 0) = b) : Calls Try.prog 33 #[.pointer (some ⟨B, 0, none⟩)] w fun x w' => x = .returned (.bool b) ∧ w' = w := by
  have c0 : w.cell? ⟨B, 0, none⟩ = some (.int .i64 e) := cell_blk h 0 rfl
  subst hb
  clear h
  go_enter Try.func33, Try.ntmps33
  go_wp2
  go_ret
  exact ⟨rfl, rfl⟩
theorem stopped_nil (w : World) : Calls Try.prog 33 #[.pointer none] w fun x w' => x = .returned (.bool true) ∧ w' = w := by
  go_enter Try.func33, Try.ntmps33
  go_wp2
  go_ret
  exact ⟨rfl, rfl⟩
theorem note_first (B : Nat) (x : Int) (w : World) (c0 : w.cell? ⟨B, 0, none⟩ = some (.int .i64 0)) (z0 : w.frozen? ⟨B, 0, none⟩ = false) : Calls Try.prog 34 #[.pointer (some ⟨B, 0, none⟩), .int .i64 x] w fun y w' => y = .returned (.tuple #[]) ∧ w' = w.setCell ⟨B, 0, none⟩ (.int .i64 x) := by
  go_enter Try.func34, Try.ntmps34
  go_wp2
  go_end0
  exact ⟨rfl, rfl⟩
theorem note_later (B : Nat) (e x : Int) (w : World) (he : e ≠ 0) (c0 : w.cell? ⟨B, 0, none⟩ = some (.int .i64 e)) : Calls Try.prog 34 #[.pointer (some ⟨B, 0, none⟩), .int .i64 x] w fun y w' => y = .returned (.tuple #[]) ∧ w' = w := by
  go_enter Try.func34, Try.ntmps34
  go_wp2
  go_end0
  exact ⟨rfl, rfl⟩

theorem or128 : ∀ c : Nat, c < 256 → bits .or .u8 (c : Int) 128 = ((c % 128 + 128 : Nat) : Int) := by decide +kernel
theorem Reads.lit (w : World) (c : Nat) (hc : c < 256) : Reads (w.alloc (.cells #[.int .u8 (c : Int)] 5)) (some ⟨w.heap.size, 0, none⟩) 1 1 [c] := by
  refine ⟨rfl, Nat.le_refl _, by unfold maxLen; omega, fun d hd => by simp at hd; omega, fun _ => ⟨w.heap.size, 0, rfl, fun i hi => ?_⟩⟩
  have : i = 0 := by omega
  subst this
  exact cell_blk (heap_alloc_new w _) 0 rfl

set_option maxRecDepth 100000 in
set_option maxHeartbeats 800000 in
theorem wUint (B : Nat) (v : Value) (l : List Nat) (n : Nat) (w : World) (h : IsW w B 0 v l) (hn : n < 9223372036854775808) (hs : l.length + (Pk.form n).length ≤ 140737488355328) :
    Calls Try.prog 10 #[.pointer (some ⟨B, 0, none⟩), .int .i64 (n : Int)] w fun x w' => x = .returned (.tuple #[]) ∧ ∃ v', Put w B v w' 0 v' (l ++ Pk.form n) := by
  have H : Hid (IsW w B 0 v l) := h
  have HS : Hid (l.length + (Pk.form n).length ≤ 140737488355328) := hs
  clear h hs
  go_enter Try.func10, Try.ntmps10
  go_wp2_with fail
  refine (stopped_any B 0 v w H.out.blk false rfl).mono ?_
  rintro x w' ⟨rfl, rfl⟩
  go_wp2_with fail
  go_loopw [1] (fun x wr => ∃ (m : Nat) (v' : Value) (l' : List Nat), x = .int .i64 (m : Int) ∧ m < 9223372036854775808 ∧ Put w' B v wr 0 v' l' ∧ l' ++ Pk.form m = l ++ Pk.form n) (fun x _ => (intOf x).toNat)
  case atStart => exact ⟨n, v, l, rfl, hn, Put.refl H.out, rfl⟩
  case round =>
    obtain ⟨m, v', l', rfl, hm, P, E⟩ := hrel
    have PH : Hid (Put w' B v wr 0 v' l') := P
    have EH : Hid (l' ++ Pk.form m = l ++ Pk.form n) := E
    have len : Hid (l'.length + (Pk.form m).length ≤ 140737488355328) := by
      have := congrArg List.length E
      rw [List.length_append, List.length_append] at this
      have h2 := HS.out
      show l'.length + (Pk.form m).length ≤ 140737488355328
      omega
    have c1 := P.isW.dat
    clear P E
    by_cases hb : 128 ≤ m
    · have hb' : (128 : Int) ≤ (m : Int) := by omega
      have o1 := or128 (m % 256) (by omega)
      have e1 : (((m % 256 : Nat) : Int)) = (m : Int) % 256 := by omega
      rw [e1, show m % 256 % 128 = m % 128 by omega] at o1
      have lc : m % 128 + 128 < 256 := by omega
      have fb : Hid (Pk.form m = (m % 128 + 128) :: Pk.form (m / 128)) := Pk.form_big m hb
      obtain ⟨c, hc⟩ : ∃ c, m % 128 + 128 = c := ⟨_, rfl⟩
      rw [hc] at o1 fb lc
      clear hc e1
      go_wp2_with (first | (at_builtin; refine wpList_append_bytes _ rfl (.tmp 23) (.tmp 27) 28 rfl 0 v' l'.length l' rfl (PH.out.isW.own.alloc _) (.slice (some ⟨wr.heap.size, 0, none⟩) 1 1) 1 [c] rfl (Reads.lit wr c lc).src (by have := len.out; have := Pk.form_pos m; omega) (Nat.zero_le _) ?_; intro p2 k2 w2 ho hg _ nr; obtain ⟨c2, z2⟩ := Put.cell PH.out.isW ((Kept.refl _ wr).alloc _) hg.out) | fail)
      go_roundw
      case rel =>
        refine ⟨m / 128, _, _, by go_num, by omega, PH.out.trans (Put.step PH.out.isW ((Kept.refl _ wr).alloc _) ho.out (fun d hd => by simp at hd; omega) hg.out nr.out), ?_⟩
        rw [← EH.out, fb.out]; simp
      case measure => simp [intOf]; omega
    · have hb' : (m : Int) < 128 := by omega
      have o1 : (m : Int) % 256 = (m : Int) := by omega
      have lc : m < 256 := by omega
      have fb : Hid (Pk.form m = [m]) := Pk.form_small m (by omega)
      clear hb
      go_wp2_with (first | (at_builtin; refine wpList_append_bytes _ rfl (.tmp 35) (.tmp 38) 28 rfl 0 v' l'.length l' rfl (PH.out.isW.own.alloc _) (.slice (some ⟨wr.heap.size, 0, none⟩) 1 1) 1 [m] rfl (Reads.lit wr m lc).src (by have := len.out; have := Pk.form_pos m; omega) (Nat.zero_le _) ?_; intro p2 k2 w2 ho hg _ nr; obtain ⟨c2, z2⟩ := Put.cell PH.out.isW ((Kept.refl _ wr).alloc _) hg.out) | fail)
      go_end0
      refine ⟨rfl, .slice p2 (l'.length + 1) k2, ?_⟩
      rw [← EH.out, fb.out]
      exact PH.out.trans (Put.step PH.out.isW ((Kept.refl _ wr).alloc _) ho.out (fun d hd => by simp at hd; omega) hg.out nr.out)
theorem IsW.fail {w : World} {B : Nat} {e : Int} {v : Value} {l : List Nat} (h : IsW w B e v l) (x : Int) : Put w B v ((w.setCell ⟨B, 0, none⟩ (.int .i64 x)).setCell ⟨B, 1, none⟩ (.slice none 0 0)) x (.slice none 0 0) [] := by
  refine ⟨⟨heap_set (heap_set h.blk 0 _) 1 _, World.ownsRow_nil _ _ _ _, fun _ q => absurd q (by simp)⟩, ?_, fun k q => by simp [Value.ownBlock] at q⟩
  exact ((Kept.refl (wfoot B v) w).setCell (p := ⟨B, 0, none⟩) (fun _ => .inl rfl) _).setCell (p := ⟨B, 1, none⟩) (fun _ => .inl rfl) _
set_option maxRecDepth 100000 in
theorem wUint_neg (B : Nat) (v : Value) (l : List Nat) (n : Int) (w : World) (h : IsW w B 0 v l) (hn : n < 0) :
    Calls Try.prog 10 #[.pointer (some ⟨B, 0, none⟩), .int .i64 n] w fun x w' => x = .returned (.tuple #[]) ∧ Put w B v w' 33 (.slice none 0 0) [] := by
  have H : Hid (IsW w B 0 v l) := h
  clear h
  go_enter Try.func10, Try.ntmps10
  go_wp2_with fail
  refine (stopped_any B 0 v w H.out.blk false rfl).mono ?_
  rintro x w' ⟨rfl, rfl⟩
  go_wp2_with fail
  refine (note_first B 33 w' H.out.err (soft_blk H.out.blk 0)).mono ?_
  rintro x w1 ⟨rfl, rfl⟩
  have b1 := heap_set H.out.blk 0 (.int .i64 33)
  have c1 := cell_blk b1 1 (v := v) rfl
  have z1 := soft_blk b1 1
  clear b1
  go_wp2_with fail
  first | go_end0 | refine bodyPost_ret (results_none rfl _ _ _) rfl ?_
  exact ⟨rfl, H.out.fail 33⟩
theorem wUint_err (B : Nat) (v : Value) (l : List Nat) (n e : Int) (w : World) (h : IsW w B e v l) (he : e ≠ 0) :
    Calls Try.prog 10 #[.pointer (some ⟨B, 0, none⟩), .int .i64 n] w fun x w' => x = .returned (.tuple #[]) ∧ w' = w := by
  go_enter Try.func10, Try.ntmps10
  go_wp2_with fail
  refine (stopped_any B e v w h.blk true (by simpa using he)).mono ?_
  rintro x w' ⟨rfl, rfl⟩
  go_wp2_with fail
  first | go_end0 | refine bodyPost_ret (results_none rfl _ _ _) rfl ?_
  exact ⟨rfl, rfl⟩
theorem wUint_nil (n : Int) (w : World) : Calls Try.prog 10 #[.pointer none, .int .i64 n] w fun x w' => x = .returned (.tuple #[]) ∧ w' = w := by
  go_enter Try.func10, Try.ntmps10
  go_wp2_with fail
  refine (stopped_nil w).mono ?_
  rintro x w' ⟨rfl, rfl⟩
  go_wp2_with fail
  first | go_end0 | refine bodyPost_ret (results_none rfl _ _ _) rfl ?_
  exact ⟨rfl, rfl⟩

set_option maxRecDepth 100000 in
theorem wByte (B : Nat) (v : Value) (l : List Nat) (c : Nat) (w : World) (h : IsW w B 0 v l) (hc : c < 256) (hs : l.length + 1 ≤ 140737488355328) :
    Calls Try.prog 36 #[.pointer (some ⟨B, 0, none⟩), .int .u8 (c : Int)] w fun x w' => x = .returned (.tuple #[]) ∧ ∃ v', Put w B v w' 0 v' (l ++ [c]) := by
  have H : Hid (IsW w B 0 v l) := h
  have c1 := h.dat
  clear h
  go_enter Try.func36, Try.ntmps36
  go_wp2_with fail
  refine (stopped_any B 0 v w H.out.blk false rfl).mono ?_
  rintro x w' ⟨rfl, rfl⟩
  go_wp2_with (first | (at_builtin; refine wpList_append_bytes _ rfl (.tmp 10) (.tmp 12) 28 rfl 0 v l.length l rfl (H.out.own.alloc _) (.slice (some ⟨w'.heap.size, 0, none⟩) 1 1) 1 [c] rfl (Reads.lit w' c hc).src (by omega) (Nat.zero_le _) ?_; intro p2 k2 w2 ho hg _ nr; obtain ⟨c2, z2⟩ := Put.cell H.out ((Kept.refl _ w').alloc _) hg.out) | fail)
  go_end0
  exact ⟨rfl, .slice p2 (l.length + 1) k2, Put.step H.out ((Kept.refl _ w').alloc _) ho.out (fun d hd => by simp at hd; omega) hg.out nr.out⟩
theorem wByte_err (B : Nat) (v : Value) (l : List Nat) (c e : Int) (w : World) (h : IsW w B e v l) (he : e ≠ 0) :
    Calls Try.prog 36 #[.pointer (some ⟨B, 0, none⟩), .int .u8 c] w fun x w' => x = .returned (.tuple #[]) ∧ w' = w := by
  go_enter Try.func36, Try.ntmps36
  go_wp2_with fail
  refine (stopped_any B e v w h.blk true (by simpa using he)).mono ?_
  rintro x w' ⟨rfl, rfl⟩
  go_wp2_with fail
  first | go_end0 | refine bodyPost_ret (results_none rfl _ _ _) rfl ?_
  exact ⟨rfl, rfl⟩
theorem wByte_nil (c : Int) (w : World) : Calls Try.prog 36 #[.pointer none, .int .u8 c] w fun x w' => x = .returned (.tuple #[]) ∧ w' = w := by
  go_enter Try.func36, Try.ntmps36
  go_wp2_with fail
  refine (stopped_nil w).mono ?_
  rintro x w' ⟨rfl, rfl⟩
  go_wp2_with fail
  first | go_end0 | refine bodyPost_ret (results_none rfl _ _ _) rfl ?_
  exact ⟨rfl, rfl⟩

/-- A yes or a no. -/
def yn (b : Bool) : Nat := if b then 1 else 0
theorem wBool (B : Nat) (v : Value) (l : List Nat) (b : Bool) (w : World) (h : IsW w B 0 v l) (hs : l.length + 1 ≤ 140737488355328) :
    Calls Try.prog 38 #[.pointer (some ⟨B, 0, none⟩), .bool b] w fun x w' => x = .returned (.tuple #[]) ∧ ∃ v', Put w B v w' 0 v' (l ++ [yn b]) := by
  cases b
  · go_enter Try.func38, Try.ntmps38
    go_wp2_with fail
    refine (wByte B v l 0 w h (by omega) hs).mono ?_
    rintro x w' ⟨rfl, P⟩
    go_wp2_with fail
    go_end0
    exact ⟨rfl, P⟩
  · go_enter Try.func38, Try.ntmps38
    go_wp2_with fail
    refine (wByte B v l 1 w h (by omega) hs).mono ?_
    rintro x w' ⟨rfl, P⟩
    go_wp2_with fail
    go_end0
    exact ⟨rfl, P⟩
theorem wBool_err (B : Nat) (v : Value) (l : List Nat) (b : Bool) (e : Int) (w : World) (h : IsW w B e v l) (he : e ≠ 0) :
    Calls Try.prog 38 #[.pointer (some ⟨B, 0, none⟩), .bool b] w fun x w' => x = .returned (.tuple #[]) ∧ w' = w := by
  cases b
  · go_enter Try.func38, Try.ntmps38
    go_wp2_with fail
    refine (wByte_err B v l 0 e w h he).mono ?_
    rintro x w' ⟨rfl, rfl⟩
    go_wp2_with fail
    go_end0
    exact ⟨rfl, rfl⟩
  · go_enter Try.func38, Try.ntmps38
    go_wp2_with fail
    refine (wByte_err B v l 1 e w h he).mono ?_
    rintro x w' ⟨rfl, rfl⟩
    go_wp2_with fail
    go_end0
    exact ⟨rfl, rfl⟩

set_option maxRecDepth 100000 in
theorem nil_none (cap : Nat) (w : World) : (binOp .eql 28 (.slice none 0 cap) (.slice none 0 0)).run Try.prog w = .ok (.bool true) w := by kernel_rfl
theorem nil_some (ad : Addr) (len cap : Nat) (w : World) : (binOp .eql 28 (.slice (some ad) len cap) (.slice none 0 0)).run Try.prog w = .ok (.bool false) w := by kernel_rfl
set_option maxRecDepth 100000 in
theorem clone (a : Option Addr) (len cap : Nat) (l : List Nat) (w : World) (r : Reads w a len cap l) (hs : len ≤ 140737488355328) :
    Calls Try.prog 35 #[.slice a len cap] w fun x w' => ∃ p c, x = .returned (.slice p len c) ∧ w'.ownsRow w.heap.size 5 1 (.slice p len c) len (cellsOf l) ∧ Kept (fun _ => False) w w' := by
  have R : Hid (Reads w a len cap l) := r
  clear r
  cases a with
  | none =>
    have h0 : len = 0 := by
      rcases Nat.eq_zero_or_pos len with q | q
      · exact q
      · obtain ⟨_, _, e, _⟩ := R.out.cells q; cases e
    subst h0
    have hl : l = [] := List.eq_nil_of_length_eq_zero R.out.length
    subst hl
    have N := nil_none cap
    go_enter Try.func35, Try.ntmps35
    go_wp2_with fail
    go_ret
    exact ⟨none, 0, rfl, World.ownsRow_nil _ _ _ _, Kept.refl _ _⟩
  | some ad =>
    have K : Hid (Kept (fun _ => False) w (w.alloc (.cells #[] 5))) := (Kept.refl _ w).alloc _
    have r2 : Hid (Reads (w.alloc (.cells #[] 5)) (some ad) len cap l) := R.out.kept K.out (fun _ _ f => f.elim)
    have N := nil_some ad len cap
    go_enter Try.func35, Try.ntmps35
    go_wp2_with (first | (at_builtin; refine wpList_append_bytes _ rfl (.tmp 5) (.tmp 6) 28 rfl w.heap.size (.slice (some ⟨w.heap.size, 0, none⟩) 0 0) 0 [] rfl (World.ownsRow_made w #[] 0 (Nat.le_refl _) (by unfold maxLen; omega) rfl) (.slice (some ad) len cap) len l rfl r2.out.src (by omega) (by simp) ?_; intro p2 k2 w2 ho hg _ nr) | fail)
    go_ret
    rw [Nat.zero_add] at ho
    rw [List.nil_append] at ho
    refine ⟨p2, k2, by simp, ho.out, K.out.grown hg.out (fun k hk q => ?_)⟩
    simp [Value.ownBlock] at q
    omega

theorem wData (B : Nat) (e : Int) (v : Value) (l : List Nat) (w : World) (h : IsW w B e v l) (hs : l.length ≤ 140737488355328) :
    Calls Try.prog 11 #[.pointer (some ⟨B, 0, none⟩)] w fun x w' => ∃ p c, x = .returned (.slice p l.length c) ∧ w'.ownsRow w.heap.size 5 1 (.slice p l.length c) l.length (cellsOf l) ∧ Kept (fun _ => False) w w' := by
  obtain ⟨a, cap, rfl, r, _⟩ := owns_reads h.own h.bytes
  have R : Hid (Reads w a l.length cap l) := r
  have c1 := h.dat
  clear r h
  go_enter Try.func11, Try.ntmps11
  go_wp2_with fail
  refine (clone a l.length cap l w R.out hs).mono ?_
  rintro x w' ⟨p, c, rfl, ho, k⟩
  go_wp2_with fail
  go_ret
  exact ⟨p, c, rfl, ho, k⟩
theorem wData_nil (w : World) : Calls Try.prog 11 #[.pointer none] w fun x w' => x = .returned (.slice none 0 0) ∧ w' = w := by
  go_enter Try.func11, Try.ntmps11
  go_wp2_with fail
  go_ret
  exact ⟨rfl, rfl⟩
theorem wErr (B : Nat) (e : Int) (v : Value) (l : List Nat) (w : World) (h : IsW w B e v l) : Calls Try.prog 21 #[.pointer (some ⟨B, 0, none⟩)] w fun x w' => x = .returned (.int .i64 e) ∧ w' = w := by
  have c0 := h.err
  clear h
  go_enter Try.func21, Try.ntmps21
  go_wp2_with fail
  go_ret
  exact ⟨rfl, rfl⟩
theorem wErr_nil (w : World) : Calls Try.prog 21 #[.pointer none] w fun x w' => x = .returned (.int .i64 0) ∧ w' = w := by
  go_enter Try.func21, Try.ntmps21
  go_wp2_with fail
  go_ret
  exact ⟨rfl, rfl⟩

set_option maxRecDepth 100000 in
theorem wBytes (B : Nat) (v : Value) (l : List Nat) (a : Option Addr) (len cap : Nat) (m : List Nat) (w : World) (h : IsW w B 0 v l) (r : Reads w a len cap m) (hf : 0 < len → ∀ p, a = some p → ¬ wfoot B v p.block) (hs : l.length + (Pk.form len).length + len ≤ 140737488355328) :
    Calls Try.prog 40 #[.pointer (some ⟨B, 0, none⟩), .slice a len cap] w fun x w' => x = .returned (.tuple #[]) ∧ ∃ v', Put w B v w' 0 v' (l ++ Pk.form len ++ m) := by
  have H : Hid (IsW w B 0 v l) := h
  have R : Hid (Reads w a len cap m) := r
  have F : Hid (0 < len → ∀ p, a = some p → ¬ wfoot B v p.block) := hf
  have HS : Hid (l.length + (Pk.form len).length + len ≤ 140737488355328) := hs
  obtain ⟨q, hq⟩ : ∃ q, l ++ Pk.form len = q := ⟨_, rfl⟩
  have hql : Hid (q.length + len ≤ 140737488355328) := by
    show q.length + len ≤ 140737488355328
    rw [← hq, List.length_append]; exact HS.out
  rw [hq]
  have QH : Hid (l ++ Pk.form len = q) := hq
  clear h r hf hs hq
  go_enter Try.func40, Try.ntmps40
  go_wp2_with fail
  refine (stopped_any B 0 v w H.out.blk false rfl).mono ?_
  rintro x w' ⟨rfl, rfl⟩
  go_wp2_with fail
  refine (wUint B v l len w' H.out (by have := HS.out; omega) (by have := HS.out; omega)).mono ?_
  rintro x w1 ⟨rfl, v1, P⟩
  rw [QH.out] at P
  have PH : Hid (Put w' B v w1 0 v1 q) := P
  have R1 : Hid (Reads w1 a len cap m) := R.out.kept0 P.kept F.out
  have c1 := P.isW.dat
  clear P
  go_wp2_with (first | (at_builtin; refine wpList_append_bytes _ rfl (.tmp 14) (.tmp 15) 28 rfl 0 v1 q.length q rfl PH.out.isW.own (.slice a len cap) len m rfl R1.out.src hql.out (Nat.zero_le _) ?_; intro p2 k2 w2 ho hg _ nr; obtain ⟨c2, z2⟩ := Put.cell PH.out.isW (Kept.refl _ w1) hg.out) | fail)
  go_end0
  exact ⟨rfl, .slice p2 _ k2, PH.out.trans (Put.step PH.out.isW (Kept.refl _ w1) ho.out R.out.bytes hg.out nr.out)⟩
theorem wBytes_err (B : Nat) (v : Value) (l : List Nat) (s : Value) (e : Int) (w : World) (h : IsW w B e v l) (he : e ≠ 0) :
    Calls Try.prog 40 #[.pointer (some ⟨B, 0, none⟩), s] w fun x w' => x = .returned (.tuple #[]) ∧ w' = w := by
  go_enter Try.func40, Try.ntmps40
  go_wp2_with fail
  refine (stopped_any B e v w h.blk true (by simpa using he)).mono ?_
  rintro x w' ⟨rfl, rfl⟩
  go_wp2_with fail
  first | go_end0 | refine bodyPost_ret (results_none rfl _ _ _) rfl ?_
  exact ⟨rfl, rfl⟩
theorem wBytes_nil (s : Value) (w : World) : Calls Try.prog 40 #[.pointer none, s] w fun x w' => x = .returned (.tuple #[]) ∧ w' = w := by
  go_enter Try.func40, Try.ntmps40
  go_wp2_with fail
  refine (stopped_nil w).mono ?_
  rintro x w' ⟨rfl, rfl⟩
  go_wp2_with fail
  first | go_end0 | refine bodyPost_ret (results_none rfl _ _ _) rfl ?_
  exact ⟨rfl, rfl⟩
/-- A text's bytes. -/
def sb (s : ByteArray) : List Nat := s.data.toList.map UInt8.toNat
theorem sb_length (s : ByteArray) : (sb s).length = s.size := by
  unfold sb; rw [List.length_map, Array.length_toList]; rfl
theorem sb_bytes (s : ByteArray) : ∀ c ∈ sb s, c < 256 := fun c hc => by
  obtain ⟨b, _, rfl⟩ := List.mem_map.1 hc
  exact b.toNat_lt
theorem sb_cells (s : ByteArray) : byteCells s = cellsOf (sb s) := by
  unfold byteCells cellsOf sb; rw [List.map_map]; rfl
theorem src_string (w : World) (s : ByteArray) : Src Try.prog 1 9 (.string s) s.size (cellsOf (sb s)) w := sb_cells s ▸ Src.ofString w Try.underlying9 s
set_option maxRecDepth 100000 in
theorem wText (B : Nat) (v : Value) (l : List Nat) (s : ByteArray) (w : World) (h : IsW w B 0 v l) (hs : l.length + (Pk.form s.size).length + s.size ≤ 140737488355328) :
    Calls Try.prog 42 #[.pointer (some ⟨B, 0, none⟩), .string s] w fun x w' => x = .returned (.tuple #[]) ∧ ∃ v', Put w B v w' 0 v' (l ++ Pk.form s.size ++ sb s) := by
  have H : Hid (IsW w B 0 v l) := h
  have HS : Hid (l.length + (Pk.form s.size).length + s.size ≤ 140737488355328) := hs
  obtain ⟨q, hq⟩ : ∃ q, l ++ Pk.form s.size = q := ⟨_, rfl⟩
  have hql : Hid (q.length + s.size ≤ 140737488355328) := by
    show q.length + s.size ≤ 140737488355328
    rw [← hq, List.length_append]; exact HS.out
  rw [hq]
  have QH : Hid (l ++ Pk.form s.size = q) := hq
  clear h hs hq
  go_enter Try.func42, Try.ntmps42
  go_wp2_with fail
  refine (stopped_any B 0 v w H.out.blk false rfl).mono ?_
  rintro x w' ⟨rfl, rfl⟩
  go_wp2_with fail
  refine (wUint B v l s.size w' H.out (by have := HS.out; omega) (by have := HS.out; omega)).mono ?_
  rintro x w1 ⟨rfl, v1, P⟩
  rw [QH.out] at P
  have PH : Hid (Put w' B v w1 0 v1 q) := P
  have c1 := P.isW.dat
  clear P
  go_wp2_with (first | (at_builtin; refine wpList_append_bytes _ rfl (.tmp 14) (.tmp 15) 9 rfl 0 v1 q.length q rfl PH.out.isW.own (.string s) s.size (sb s) rfl (src_string w1 s) hql.out (Nat.zero_le _) ?_; intro p2 k2 w2 ho hg _ nr; obtain ⟨c2, z2⟩ := Put.cell PH.out.isW (Kept.refl _ w1) hg.out) | fail)
  go_end0
  exact ⟨rfl, .slice p2 _ k2, PH.out.trans (Put.step PH.out.isW (Kept.refl _ w1) ho.out (sb_bytes s) hg.out nr.out)⟩
theorem wText_err (B : Nat) (v : Value) (l : List Nat) (s : ByteArray) (e : Int) (w : World) (h : IsW w B e v l) (he : e ≠ 0) :
    Calls Try.prog 42 #[.pointer (some ⟨B, 0, none⟩), .string s] w fun x w' => x = .returned (.tuple #[]) ∧ w' = w := by
  go_enter Try.func42, Try.ntmps42
  go_wp2_with fail
  refine (stopped_any B e v w h.blk true (by simpa using he)).mono ?_
  rintro x w' ⟨rfl, rfl⟩
  go_wp2_with fail
  first | go_end0 | refine bodyPost_ret (results_none rfl _ _ _) rfl ?_
  exact ⟨rfl, rfl⟩
theorem wText_nil (s : ByteArray) (w : World) : Calls Try.prog 42 #[.pointer none, .string s] w fun x w' => x = .returned (.tuple #[]) ∧ w' = w := by
  go_enter Try.func42, Try.ntmps42
  go_wp2_with fail
  refine (stopped_nil w).mono ?_
  rintro x w' ⟨rfl, rfl⟩
  go_wp2_with fail
  first | go_end0 | refine bodyPost_ret (results_none rfl _ _ _) rfl ?_
  exact ⟨rfl, rfl⟩
end Go.Proofs.Ytgfglbbfoadiaaa
