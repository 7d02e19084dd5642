import Derived.Test.YtgfglbbfoadiaaaMore
namespace Go.Proofs.Ytgfglbbfoadiaaa
open Go.RowKit

/-- The document's writer. -/
structure IsV (w : World) (V : Nat) (e : Int) (u : Value) (l : List Nat) : Prop where
  blk : w.heap[V]? = some (.cells #[u, .int .i64 e] 80 (0, 0))
  own : w.ownsRow 0 5 1 u l.length (cellsOf l)
  bytes : ∀ c ∈ l, c < 256
theorem IsV.apart {w : World} {V : Nat} {e : Int} {u : Value} {l : List Nat} (h : IsV w V e u l) : u.ownBlock ≠ some V := own_ne h.blk h.own (by decide)
theorem IsV.kept {S : Nat → Prop} {w w' : World} {V : Nat} {e : Int} {u : Value} {l : List Nat} (h : IsV w V e u l) (k : Kept S w w') (h1 : ¬ S V) (h2 : ∀ j, u.ownBlock = some j → ¬ S j) : IsV w' V e u l :=
  ⟨k.get h.blk h1, k.owns h.own h2, h.bytes⟩
theorem IsV.dat {w : World} {V : Nat} {e : Int} {u : Value} {l : List Nat} (h : IsV w V e u l) : w.cell? ⟨V, 0, none⟩ = some u := cell_blk h.blk 0 rfl
theorem IsV.err {w : World} {V : Nat} {e : Int} {u : Value} {l : List Nat} (h : IsV w V e u l) : w.cell? ⟨V, 1, none⟩ = some (.int .i64 e) := cell_blk h.blk 1 rfl
structure PutV (w : World) (V : Nat) (u : Value) (w' : World) (e : Int) (u' : Value) (l' : List Nat) : Prop where
  isV : IsV w' V e u' l'
  kept : Kept (wfoot V u) w w'
  near : Near w u u'
theorem PutV.quiet {w w' : World} {V : Nat} {e : Int} {u : Value} {l : List Nat} (h : IsV w V e u l) (k : Kept (fun _ => False) w w') : PutV w V u w' e u l := ⟨h.kept k (fun f => f) (fun _ _ f => f), k.mono (fun _ _ f => f.elim), fun _ q => .inl q⟩
theorem PutV.trans {w w1 w2 : World} {V : Nat} {e1 e2 : Int} {u u1 u2 : Value} {l1 l2 : List Nat} (h : PutV w V u w1 e1 u1 l1) (k : PutV w1 V u1 w2 e2 u2 l2) : PutV w V u w2 e2 u2 l2 := by
  have hs := h.kept.size
  refine ⟨k.isV, h.kept.trans k.kept (fun j hj q => ?_), fun j q => ?_⟩
  · rcases q with q | q
    · exact .inl q
    · rcases h.near j q with r | r
      · exact .inr r
      · omega
  · rcases k.near j q with r | r
    · exact h.near j r
    · exact .inr (by omega)
theorem PutV.step {w w1 : World} {V : Nat} {e : Int} {u u' : Value} {l k : List Nat} {m : Nat} (h : IsV w V e u l) (ho : w1.ownsRow 0 5 1 u' (l.length + m) (cellsOf (l ++ k))) (kb : ∀ c ∈ k, c < 256)
    (g : w.grownBy w1 u.ownBlock) (nr : u'.ownBlock = u.ownBlock ∨ u'.ownBlock = some w.heap.size) : PutV w V u (w1.setCell ⟨V, 0, none⟩ u') e u' (l ++ k) := by
  have hm : (l ++ k).length = l.length + m := by have := ho.1; rw [cellsOf_length] at this; omega
  have k1 : Kept (fun j => u.ownBlock = some j) w w1 := (Kept.refl _ w).grown g (fun _ _ e => e)
  have b1 := k1.get h.blk h.apart
  have ap : u'.ownBlock ≠ some V := own_ne b1 ho (by decide)
  refine ⟨⟨heap_set b1 0 u', ?_, fun c hc => ?_⟩, ?_, fun j hj => ?_⟩
  · have k2 : Kept (fun j => j = V) w1 (w1.setCell ⟨V, 0, none⟩ u') := (Kept.refl (fun j => j = V) w1).setCell (p := ⟨V, 0, none⟩) (fun _ => rfl) u'
    rw [hm]
    exact k2.owns ho (fun j hj hjB => ap (hjB ▸ hj))
  · rcases List.mem_append.1 hc with r | r
    · exact h.bytes c r
    · exact kb c r
  · exact (k1.mono (S' := wfoot V u) (fun j _ r => .inr r)).setCell (fun _ => .inl rfl) u'
  · rcases nr with r | r
    · exact .inl (r ▸ hj)
    · rw [r] at hj
      cases hj
      exact .inr (Nat.le_refl _)
theorem PutV.cell {w w1 : World} {V : Nat} {e : Int} {u : Value} {l : List Nat} (h : IsV w V e u l) (g : w.grownBy w1 u.ownBlock) : w1.cell? ⟨V, 0, none⟩ = some u ∧ w1.frozen? ⟨V, 0, none⟩ = false := by
  have k1 : Kept (fun j => u.ownBlock = some j) w w1 := (Kept.refl _ w).grown g (fun _ _ e => e)
  have b1 := k1.get h.blk h.apart
  exact ⟨cell_blk b1 0 rfl, soft_blk b1 0⟩

theorem newV (w : World) : Calls Try.prog 23 #[] w fun e w' => e = .returned (.pointer (some ⟨w.heap.size, 0, none⟩)) ∧ w' = w.alloc (.cells #[.slice none 0 0, .int .i64 0] 80) := by
  go_enter Try.func23, Try.ntmps23
  go_wp2
  go_ret
  exact ⟨rfl, rfl⟩
theorem IsV.new (w : World) : IsV (w.alloc (.cells #[.slice none 0 0, .int .i64 0] 80)) w.heap.size 0 (.slice none 0 0) [] :=
  ⟨heap_alloc_new w _, World.ownsRow_nil _ _ _ _, fun _ h => absurd h (by simp)⟩
theorem vErr (V : Nat) (e : Int) (u : Value) (l : List Nat) (w : World) (h : IsV w V e u l) : Calls Try.prog 53 #[.pointer (some ⟨V, 0, none⟩)] w fun x w' => x = .returned (.int .i64 e) ∧ w' = w := by
  have c0 := h.err
  clear h
  go_enter Try.func53, Try.ntmps53
  go_wp2_with fail
  go_ret
  exact ⟨rfl, rfl⟩
set_option maxRecDepth 100000 in
theorem vPut (V : Nat) (u : Value) (l : List Nat) (a : Option Addr) (len cap : Nat) (m : List Nat) (w : World) (h : IsV w V 0 u l) (r : Reads w a len cap m) (hs : l.length + len ≤ 140737488355328) :
    Calls Try.prog 64 #[.pointer (some ⟨V, 0, none⟩), .slice a len cap] w fun x w' => x = .returned (.tuple #[]) ∧ ∃ u', PutV w V u w' 0 u' (l ++ m) := by
  have H : Hid (IsV w V 0 u l) := h
  have R : Hid (Reads w a len cap m) := r
  have c0 := h.err
  have c1 := h.dat
  clear h r
  go_enter Try.func64, Try.ntmps64
  go_wp2_with (first | (at_builtin; refine wpList_append_bytes _ rfl (.tmp 13) (.tmp 14) 28 rfl 0 u l.length l rfl H.out.own (.slice a len cap) len m rfl R.out.src hs (Nat.zero_le _) ?_; intro p2 k2 w2 ho hg _ nr; obtain ⟨c2, z2⟩ := PutV.cell H.out hg.out) | fail)
  go_end0
  exact ⟨rfl, .slice p2 _ k2, PutV.step H.out ho.out R.out.bytes hg.out nr.out⟩
theorem vPut_err (V : Nat) (e : Int) (u : Value) (l : List Nat) (s : Value) (w : World) (h : IsV w V e u l) (he : e ≠ 0) : Calls Try.prog 64 #[.pointer (some ⟨V, 0, none⟩), s] w fun x w' => x = .returned (.tuple #[]) ∧ w' = w := by
  have c0 := h.err
  have he' : (e == 0) = false := by simpa using he
  clear h
  go_enter Try.func64, Try.ntmps64
  go_wp2_with fail
  go_end0
  exact ⟨rfl, rfl⟩

set_option maxRecDepth 100000 in
set_option maxHeartbeats 1000000 in
theorem refForm (n : Nat) (w : World) (hn : n < 9223372036854775808) :
    Calls Try.prog 54 #[.int .i64 (n : Int)] w fun x w' => ∃ p c, x = .returned (.slice p (Pk.form n).length c) ∧ w'.ownsRow w.heap.size 5 1 (.slice p (Pk.form n).length c) (Pk.form n).length (cellsOf (Pk.form n)) ∧ Kept (fun _ => False) w w' := by
  have f9 : Hid ((Pk.form n).length ≤ 9) := Pk.form_le9 n hn
  go_enter Try.func54, Try.ntmps54
  go_wp2_with fail
  go_loopw [0, 3] (fun x y wr => ∃ (m : Nat) (v : Value) (l : List Nat), x = .int .i64 (m : Int) ∧ m < 9223372036854775808 ∧ y = v ∧ Hid (wr.ownsRow w.heap.size 5 1 v l.length (cellsOf l) ∧ l ++ Pk.form m = Pk.form n ∧ Kept (fun _ => False) w wr)) (fun x _ _ => (intOf x).toNat)
  case atStart => exact ⟨n, .slice none 0 0, [], rfl, hn, rfl, World.ownsRow_nil _ _ _ _, rfl, Kept.refl _ _⟩
  case round =>
    obtain ⟨m, v, l, rfl, hm, rfl, O⟩ := hrel
    obtain ⟨a, c, rfl⟩ : ∃ a c, u3 = .slice a l.length c := by
      rcases O.out.1.2 with ⟨q, q2⟩ | ⟨g, cap, cur, q, _⟩
      · exact ⟨none, 0, by rw [q, q2]⟩
      · exact ⟨_, _, q⟩
    have len : Hid (l.length + (Pk.form m).length ≤ 9) := by
      have := congrArg List.length O.out.2.1
      rw [List.length_append] at this
      have h2 := f9.out
      show l.length + (Pk.form m).length ≤ 9
      omega
    by_cases hb : m < 128
    · have e1 : (m : Int) % 128 = (m : Int) := by omega
      have e2 : (m : Int) / 128 = 0 := by omega
      have lc : m < 256 := by omega
      have fb : Hid (Pk.form m = [m]) := Pk.form_small m hb
      go_wp2_with (first | (at_builtin; refine wpList_append_bytes _ rfl (.tmp 12) (.tmp 14) 28 rfl w.heap.size (.slice a l.length c) l.length l rfl (O.out.1.alloc _) (.slice (some ⟨wr.heap.size, 0, none⟩) 1 1) 1 [m] rfl (Reads.lit wr m lc).src (by have := len.out; omega) (by have := O.out.2.2.size; simp; omega) ?_; intro p2 k2 w2 ho hg _ nr) | fail)
      go_ret
      have el : l ++ [m] = Pk.form n := by rw [← O.out.2.1, fb.out]
      have ell : l.length + 1 = (Pk.form n).length := by rw [← el]; simp
      have ho2 := ho.out
      rw [el, ell] at ho2
      refine ⟨p2, k2, by rw [← ell]; rfl, ho2, (O.out.2.2.alloc _).grown hg.out (fun j hj q => ?_)⟩
      have := (O.out.1.lt j q).1
      omega
    · obtain ⟨d, hd⟩ : ∃ d, m % 128 = d := ⟨_, rfl⟩
      obtain ⟨r, hr⟩ : ∃ r, m / 128 = r := ⟨_, rfl⟩
      obtain ⟨q, hq⟩ : ∃ q, d + 128 = q := ⟨_, rfl⟩
      have e1 : (m : Int) % 128 = (d : Int) := by omega
      have e2 : (m : Int) / 128 = (r : Int) := by omega
      have e3 : (d : Int) + 128 = (q : Int) := by omega
      have e4 : ((r : Int) == 0) = false := by simp; omega
      have lq : q < 256 := by omega
      have ld : d < 128 := by omega
      have rm : r < m := by omega
      have fb : Hid (Pk.form m = q :: Pk.form r) := by
        show Pk.form m = _
        rw [Pk.form_big m (by omega), hd, hq, hr]
      clear hd hr hq
      go_wp2_with (first | (at_builtin; refine wpList_append_bytes _ rfl (.tmp 16) (.tmp 19) 28 rfl w.heap.size (.slice a l.length c) l.length l rfl (O.out.1.alloc _) (.slice (some ⟨wr.heap.size, 0, none⟩) 1 1) 1 [q] rfl (Reads.lit wr q lq).src (by have := len.out; have := Pk.form_pos m; omega) (by have := O.out.2.2.size; simp; omega) ?_; intro p2 k2 w2 ho hg _ nr) | fail)
      go_roundw
      case rel =>
        refine ⟨r, _, l ++ [q], rfl, by omega, rfl, ?_, ?_, (O.out.2.2.alloc _).grown hg.out (fun j hj q => ?_)⟩
        · have := ho.out
          rw [List.length_append]
          exact this
        · rw [← O.out.2.1, fb.out]; simp
        · have := (O.out.1.lt j q).1
          omega
      case measure => simp [intOf]; omega

theorem IsV.fail {w : World} {V : Nat} {e : Int} {u : Value} {l : List Nat} (h : IsV w V e u l) (x : Int) : PutV w V u (w.setCell ⟨V, 1, none⟩ (.int .i64 x)) x u l := by
  have k : Kept (fun j => j = V) w (w.setCell ⟨V, 1, none⟩ (.int .i64 x)) := (Kept.refl (fun j => j = V) w).setCell (p := ⟨V, 1, none⟩) (fun _ => rfl) _
  exact ⟨⟨heap_set h.blk 1 _, k.owns h.own (fun j hj q => h.apart (q ▸ hj)), h.bytes⟩, k.mono (fun _ _ q => .inl q), fun _ q => .inl q⟩
set_option maxRecDepth 100000 in
theorem vUint (V : Nat) (u : Value) (l : List Nat) (n : Nat) (w : World) (h : IsV w V 0 u l) (hn : n < 9223372036854775808) (hs : l.length + 9 ≤ 140737488355328) :
    Calls Try.prog 47 #[.pointer (some ⟨V, 0, none⟩), .int .i64 (n : Int)] w fun x w' => x = .returned (.tuple #[]) ∧ ∃ u', PutV w V u w' 0 u' (l ++ Pk.form n) := by
  have H : Hid (IsV w V 0 u l) := h
  have c0 := h.err
  have f9 : Hid ((Pk.form n).length ≤ 9) := Pk.form_le9 n hn
  clear h
  go_enter Try.func47, Try.ntmps47
  go_wp2_with fail
  refine (refForm n w hn).mono ?_
  rintro x w1 ⟨p, c, rfl, ho, k⟩
  have R : Hid (Reads w1 p (Pk.form n).length c (Pk.form n)) := by
    obtain ⟨a2, c2, e2, r2, _⟩ := owns_reads ho (Pk.form_bytes n)
    simp at e2
    obtain ⟨rfl, rfl⟩ := e2
    exact r2
  have K : Hid (PutV w V u w1 0 u l) := PutV.quiet H.out k
  clear ho k
  obtain ⟨fl, hfl⟩ : ∃ f, (Pk.form n).length = f := ⟨_, rfl⟩
  rw [hfl] at R f9
  rw [hfl]
  clear hfl
  go_wp2_with fail
  refine (vPut V u l p fl c (Pk.form n) w1 K.out.isV R.out (by have := f9.out; omega)).mono ?_
  rintro x w2 ⟨rfl, u', P⟩
  have P2 : Hid (PutV w V u w2 0 u' (l ++ Pk.form n)) := K.out.trans P
  clear P
  go_wp2_with fail
  go_end0
  exact ⟨rfl, u', P2.out⟩
theorem vUint_neg (V : Nat) (u : Value) (l : List Nat) (n : Int) (w : World) (h : IsV w V 0 u l) (hn : n < 0) :
    Calls Try.prog 47 #[.pointer (some ⟨V, 0, none⟩), .int .i64 n] w fun x w' => x = .returned (.tuple #[]) ∧ PutV w V u w' 33 u l := by
  have H : Hid (IsV w V 0 u l) := h
  have c0 := h.err
  have z0 := soft_blk h.blk 1
  clear h
  go_enter Try.func47, Try.ntmps47
  go_wp2_with fail
  go_end0
  exact ⟨rfl, H.out.fail 33⟩
set_option maxRecDepth 100000 in
theorem vUint_err (V : Nat) (e : Int) (u : Value) (l : List Nat) (n : Int) (w : World) (h : IsV w V e u l) (he : e ≠ 0) (hn : n < 9223372036854775808) :
    Calls Try.prog 47 #[.pointer (some ⟨V, 0, none⟩), .int .i64 n] w fun x w' => x = .returned (.tuple #[]) ∧ PutV w V u w' e u l := by
  have H : Hid (IsV w V e u l) := h
  have c0 := h.err
  have he' : (e == 0) = false := by simpa using he
  clear h
  by_cases h0 : n < 0
  · go_enter Try.func47, Try.ntmps47
    go_wp2_with fail
    go_end0
    exact ⟨rfl, PutV.quiet H.out (Kept.refl _ _)⟩
  · obtain ⟨n, rfl⟩ : ∃ k : Nat, n = (k : Int) := ⟨n.toNat, by omega⟩
    go_enter Try.func47, Try.ntmps47
    go_wp2_with fail
    refine (refForm n w (by omega)).mono ?_
    rintro x w1 ⟨p, c, rfl, ho, k⟩
    have K : Hid (PutV w V u w1 e u l) := PutV.quiet H.out k
    clear ho k
    go_wp2_with fail
    refine (vPut_err V e u l _ w1 K.out.isV he).mono ?_
    rintro x w2 ⟨rfl, rfl⟩
    go_wp2_with fail
    go_end0
    exact ⟨rfl, K.out⟩
theorem vByte (V : Nat) (u : Value) (l : List Nat) (c : Nat) (w : World) (h : IsV w V 0 u l) (hc : c < 256) (hs : l.length + 1 ≤ 140737488355328) :
    Calls Try.prog 48 #[.pointer (some ⟨V, 0, none⟩), .int .u8 (c : Int)] w fun x w' => x = .returned (.tuple #[]) ∧ ∃ u', PutV w V u w' 0 u' (l ++ [c]) := by
  have K : Hid (PutV w V u (w.alloc (.cells #[.int .u8 (c : Int)] 5)) 0 u l) := PutV.quiet h ((Kept.refl _ w).alloc _)
  clear h
  go_enter Try.func48, Try.ntmps48
  go_wp2_with fail
  refine (vPut V u l _ 1 1 [c] _ K.out.isV (Reads.lit w c hc) hs).mono ?_
  rintro x w2 ⟨rfl, u', P⟩
  have P2 : Hid (PutV w V u w2 0 u' (l ++ [c])) := K.out.trans P
  clear P
  go_wp2_with fail
  go_end0
  exact ⟨rfl, u', P2.out⟩
theorem vByte_err (V : Nat) (e : Int) (u : Value) (l : List Nat) (c : Int) (w : World) (h : IsV w V e u l) (he : e ≠ 0) :
    Calls Try.prog 48 #[.pointer (some ⟨V, 0, none⟩), .int .u8 c] w fun x w' => x = .returned (.tuple #[]) ∧ PutV w V u w' e u l := by
  have K : Hid (PutV w V u (w.alloc (.cells #[.int .u8 c] 5)) e u l) := PutV.quiet h ((Kept.refl _ w).alloc _)
  clear h
  go_enter Try.func48, Try.ntmps48
  go_wp2_with fail
  refine (vPut_err V e u l _ _ K.out.isV he).mono ?_
  rintro x w2 ⟨rfl, rfl⟩
  go_wp2_with fail
  go_end0
  exact ⟨rfl, K.out⟩
theorem vBool (V : Nat) (u : Value) (l : List Nat) (b : Bool) (w : World) (h : IsV w V 0 u l) (hs : l.length + 1 ≤ 140737488355328) :
    Calls Try.prog 49 #[.pointer (some ⟨V, 0, none⟩), .bool b] w fun x w' => x = .returned (.tuple #[]) ∧ ∃ u', PutV w V u w' 0 u' (l ++ [yn b]) := by
  cases b
  · have K : Hid (PutV w V u (w.alloc (.cells #[.int .u8 ((0 : Nat) : Int)] 5)) 0 u l) := PutV.quiet h ((Kept.refl _ w).alloc _)
    clear h
    go_enter Try.func49, Try.ntmps49
    go_wp2_with fail
    refine (vPut V u l _ 1 1 [0] _ K.out.isV (Reads.lit w 0 (by omega)) hs).mono ?_
    rintro x w2 ⟨rfl, u', P⟩
    have P2 : Hid (PutV w V u w2 0 u' (l ++ [yn false])) := K.out.trans P
    clear P
    go_wp2_with fail
    go_end0
    exact ⟨rfl, u', P2.out⟩
  · have K : Hid (PutV w V u (w.alloc (.cells #[.int .u8 ((1 : Nat) : Int)] 5)) 0 u l) := PutV.quiet h ((Kept.refl _ w).alloc _)
    clear h
    go_enter Try.func49, Try.ntmps49
    go_wp2_with fail
    refine (vPut V u l _ 1 1 [1] _ K.out.isV (Reads.lit w 1 (by omega)) hs).mono ?_
    rintro x w2 ⟨rfl, u', P⟩
    have P2 : Hid (PutV w V u w2 0 u' (l ++ [yn true])) := K.out.trans P
    clear P
    go_wp2_with fail
    go_end0
    exact ⟨rfl, u', P2.out⟩
theorem vBool_err (V : Nat) (e : Int) (u : Value) (l : List Nat) (b : Bool) (w : World) (h : IsV w V e u l) (he : e ≠ 0) :
    Calls Try.prog 49 #[.pointer (some ⟨V, 0, none⟩), .bool b] w fun x w' => x = .returned (.tuple #[]) ∧ PutV w V u w' e u l := by
  cases b
  · have K : Hid (PutV w V u (w.alloc (.cells #[.int .u8 0] 5)) e u l) := PutV.quiet h ((Kept.refl _ w).alloc _)
    clear h
    go_enter Try.func49, Try.ntmps49
    go_wp2_with fail
    refine (vPut_err V e u l _ _ K.out.isV he).mono ?_
    rintro x w2 ⟨rfl, rfl⟩
    go_wp2_with fail
    go_end0
    exact ⟨rfl, K.out⟩
  · have K : Hid (PutV w V u (w.alloc (.cells #[.int .u8 1] 5)) e u l) := PutV.quiet h ((Kept.refl _ w).alloc _)
    clear h
    go_enter Try.func49, Try.ntmps49
    go_wp2_with fail
    refine (vPut_err V e u l _ _ K.out.isV he).mono ?_
    rintro x w2 ⟨rfl, rfl⟩
    go_wp2_with fail
    go_end0
    exact ⟨rfl, K.out⟩
theorem vBytes (V : Nat) (u : Value) (l : List Nat) (a : Option Addr) (len cap : Nat) (m : List Nat) (w : World) (h : IsV w V 0 u l) (r : Reads w a len cap m) (hf : 0 < len → ∀ p, a = some p → ¬ wfoot V u p.block) (hs : l.length + 9 + len ≤ 140737488355328) :
    Calls Try.prog 50 #[.pointer (some ⟨V, 0, none⟩), .slice a len cap] w fun x w' => x = .returned (.tuple #[]) ∧ ∃ u', PutV w V u w' 0 u' (l ++ Pk.form len ++ m) := by
  have f9 : Hid ((Pk.form len).length ≤ 9) := Pk.form_le9 len (by omega)
  go_enter Try.func50, Try.ntmps50
  go_wp2_with fail
  refine (vUint V u l len w h (by omega) (by omega)).mono ?_
  rintro x w1 ⟨rfl, u1, P⟩
  have PH : Hid (PutV w V u w1 0 u1 (l ++ Pk.form len)) := P
  have R1 : Hid (Reads w1 a len cap m) := r.kept0 P.kept hf
  clear P r hf
  go_wp2_with fail
  refine (vPut V u1 (l ++ Pk.form len) a len cap m w1 PH.out.isV R1.out (by rw [List.length_append]; have := f9.out; omega)).mono ?_
  rintro x w2 ⟨rfl, u2, P⟩
  have P2 : Hid (PutV w V u w2 0 u2 (l ++ Pk.form len ++ m)) := PH.out.trans P
  clear P
  go_wp2_with fail
  go_end0
  exact ⟨rfl, u2, P2.out⟩
theorem vBytes_err (V : Nat) (e : Int) (u : Value) (l : List Nat) (a : Option Addr) (len cap : Nat) (w : World) (h : IsV w V e u l) (he : e ≠ 0) (hl : len < 9223372036854775808) :
    Calls Try.prog 50 #[.pointer (some ⟨V, 0, none⟩), .slice a len cap] w fun x w' => x = .returned (.tuple #[]) ∧ PutV w V u w' e u l := by
  go_enter Try.func50, Try.ntmps50
  go_wp2_with fail
  refine (vUint_err V e u l (len : Int) w h he (by omega)).mono ?_
  rintro x w1 ⟨rfl, P⟩
  have PH : Hid (PutV w V u w1 e u l) := P
  clear P
  go_wp2_with fail
  refine (vPut_err V e u l _ w1 PH.out.isV he).mono ?_
  rintro x w2 ⟨rfl, rfl⟩
  go_wp2_with fail
  go_end0
  exact ⟨rfl, PH.out⟩
end Go.Proofs.Ytgfglbbfoadiaaa
