import Derived.Test.YtgfglbbfoadiaaaOneCopy
namespace Go.Proofs.Ytgfglbbfoadiaaa
open Go.RowKit

/-- The first thing copied is a number that stands there. -/
theorem copy_first (B : Nat) (v : Value) (m : List Nat) (R : Nat) (D : Option Nat) (k n s : Nat) (l : List Nat) (w : World) (hw : IsW w B 0 v m) (hr : IsR w R D 0 k l) (ap : Apart B v D) (hs : m.length + l.length ≤ 140737488355328) (hp : Pk.parse 9223372036854775807 l = (n, s, 0)) :
    Calls Try.prog 13 #[.pointer (some ⟨B, 0, none⟩), .pointer (some ⟨R, 0, none⟩), .int .i64 1] w fun x w' => x = .returned (.tuple #[]) ∧ ∃ v', IsW w' B 0 v' (m ++ l.take s) ∧ IsR w' R D 0 (k + s) (l.drop s) ∧ Near w v v' ∧ Kept (fun j => j = R ∨ wfoot B v j) w w' := by
  have WH : Hid (IsW w B 0 v m) := hw
  have RH : Hid (IsR w R D 0 k l) := hr
  obtain ⟨P1, P2, P3, P4, P5, P6, P7⟩ := Pk.parse_ok hr.bytes hp
  clear hw hr
  go_enter Try.func13, Try.ntmps13
  go_wp2_with fail
  refine (rUint_ok R D 0 9223372036854775807 k n s l w RH.out hp).mono ?_
  rintro y w1 ⟨rfl, T⟩
  have TH : Hid (Took w R D w1 0 (k + s) (l.drop s)) := T
  clear T
  go_wp2_with fail
  refine (rErr R D 0 _ _ w1 TH.out.isR).mono ?_
  rintro y w2 ⟨rfl, rfl⟩
  go_wp2_with fail
  refine (wUint B v m n w2 (TH.out.isW WH.out RH.out) P5 (by rw [← P1]; omega)).mono ?_
  rintro y w3 ⟨rfl, v', P⟩
  have PH : Hid (Put w2 B v w3 0 v' (m ++ Pk.form n)) := P
  clear P
  go_wp2_with fail
  go_end0
  refine ⟨rfl, v', by rw [P3]; exact PH.out.isW, PH.out.isR (TH.out.isW WH.out RH.out) TH.out.isR ap, fun j hj => ?_, (TH.out.kept.mono (S' := fun j => j = R ∨ wfoot B v j) (fun j _ q => .inl q)).trans PH.out.kept (fun j _ q => .inr q)⟩
  have hsz := TH.out.kept.size
  rcases PH.out.near j hj with q | q
  · exact .inl q
  · exact .inr (by omega)

structure One (w w' : World) (N B : Nat) (v : Value) (R : Nat) (D : Option Nat) (e : Int) (k : Nat) (l L : List Nat) (p : Option Addr) (c : Nat) : Prop where
  isW : IsW w' B 0 v (L.take k)
  isR : IsR w' R D e k l
  rest : e = 0 → l = L.drop k
  lo : 2 ≤ k
  hi : k ≤ L.length
  far : ∀ j, v.ownBlock = some j → N ≤ j
  all : Reads w' p L.length c L
  pD : ∀ a, p = some a → a.block < N ∧ a.block ≠ R ∧ a.block ≠ B
  dD : ∀ j, D = some j → j < N ∧ j ≠ B
  nR : w.heap.size ≤ R ∧ w.heap.size ≤ B ∧ w.heap.size ≤ N ∧ N ≤ w'.heap.size
  below : Below w.heap.size w w'
theorem One.apart {w w' : World} {N B : Nat} {v : Value} {R : Nat} {D : Option Nat} {e : Int} {k : Nat} {l L : List Nat} {p : Option Addr} {c : Nat} (h : One w w' N B v R D e k l L p c) : Apart B v D := fun j hj q => by
  have := h.dD j hj
  rcases q with q | q
  · exact this.2 q
  · have := h.far j q; omega
theorem One.quiet {w w' w2 : World} {N B : Nat} {v : Value} {R : Nat} {D : Option Nat} {e : Int} {k : Nat} {l L : List Nat} {p : Option Addr} {c : Nat} (h : One w w' N B v R D e k l L p c) (q : Kept (fun _ => False) w' w2) : One w w2 N B v R D e k l L p c :=
  ⟨h.isW.kept q (fun f => f) (fun _ _ f => f), h.isR.kept q (fun f => f) (fun _ _ f => f), h.rest, h.lo, h.hi, h.far, h.all.kept q (fun _ _ f => f), h.pD, h.dD,
    ⟨h.nR.1, h.nR.2.1, h.nR.2.2.1, Nat.le_trans h.nR.2.2.2 q.size⟩, h.below.trans (q.below (by have := h.nR; omega) (fun _ f => f.elim))⟩
theorem One.length {w w' : World} {N B : Nat} {v : Value} {R : Nat} {D : Option Nat} {e : Int} {k : Nat} {l L : List Nat} {p : Option Addr} {c : Nat} (h : One w w' N B v R D e k l L p c) : (L.take k).length + l.length ≤ L.length := by
  have := h.hi
  by_cases he : e = 0
  · rw [h.rest he, List.length_take, List.length_drop]; omega
  · rw [h.isR.quiet he, List.length_take]; simp; omega
theorem One.move {w w' w2 : World} {N B : Nat} {v v2 : Value} {R : Nat} {D : Option Nat} {e e2 : Int} {k k2 : Nat} {l l2 L : List Nat} {p : Option Addr} {c : Nat} (h : One w w' N B v R D e k l L p c)
    (hw : IsW w2 B 0 v2 (L.take k2)) (hr : IsR w2 R D e2 k2 l2) (nr : Near w' v v2) (q : Kept (fun j => j = R ∨ wfoot B v j) w' w2) (rest : e2 = 0 → l2 = L.drop k2) (lo : 2 ≤ k2) (hi : k2 ≤ L.length) : One w w2 N B v2 R D e2 k2 l2 L p c := by
  have hn := h.nR
  refine ⟨hw, hr, rest, lo, hi, fun j hj => ?_, h.all.kept q (fun a ha f => ?_), h.pD, h.dD, ⟨hn.1, hn.2.1, hn.2.2.1, Nat.le_trans hn.2.2.2 q.size⟩, h.below.trans (q.below (by omega) (fun j f => ?_))⟩
  · rcases nr j hj with f | f
    · exact h.far j f
    · omega
  · have := h.pD a ha
    rcases f with f | f | f
    · omega
    · omega
    · have := h.far _ f; omega
  · rcases f with f | f | f
    · omega
    · omega
    · have := h.far _ f; omega
theorem One.step {w w' w2 : World} {N B : Nat} {v : Value} {R : Nat} {D : Option Nat} {e : Int} {k : Nat} {l L : List Nat} {p : Option Addr} {c : Nat} (h : One w w' N B v R D e k l L p c) (o : Cop w' B v (L.take k) R D e k l w2) : ∃ v2 e2 k2 l2, One w w2 N B v2 R D e2 k2 l2 L p c := by
  obtain ⟨v2, e2, t, l2, iw, ir, nr, ht, alt⟩ := o.ex
  have hl := h.length
  have hh := h.hi
  have hlo := h.lo
  have ek : L.take k ++ l.take t = L.take (k + t) ∧ k + t ≤ L.length := by
    by_cases he : e = 0
    · have := h.rest he
      subst this
      rw [List.length_drop] at ht
      exact ⟨List.take_add.symm, by omega⟩
    · have := h.isR.quiet he
      subst this
      simp at ht
      subst ht
      exact ⟨by simp, by omega⟩
  rw [ek.1] at iw
  refine ⟨v2, e2, k + t, l2, h.move iw ir nr o.kept (fun q => ?_) (by omega) ek.2⟩
  rcases alt with ⟨a1, a2⟩ | ⟨_, _, a3, _⟩
  · subst a1
    rw [h.rest (by omega), List.drop_drop]
  · exact absurd q a3

/-- A list of ints that can be read. -/
def Ints (w : World) (a : Option Addr) (len : Nat) : Prop := 0 < len → ∃ b off, a = some ⟨b, off, none⟩ ∧ ∀ i, i < len → ∃ z, w.cell? ⟨b, off + i, none⟩ = some (.int .i64 z)

theorem owns_lit2 (w : World) (base : Nat) (hb : base ≤ w.heap.size) : (w.alloc (.cells #[.int .u8 172, .int .u8 2] 5)).ownsRow base 5 1 (.slice (some ⟨w.heap.size, 0, none⟩) 2 2) 2 (cellsOf [172, 2]) :=
  ⟨rfl, .inr ⟨w.heap.size, 2, #[.int .u8 172, .int .u8 2], rfl, hb, heap_alloc_new w _, Nat.le_refl _, by unfold maxLen; omega, rfl, rfl⟩⟩
theorem form300 : Pk.form 300 = [172, 2] := by
  rw [Pk.form_big 300 (by omega), Pk.form_small (300 / 128) (by omega)]

set_option maxRecDepth 100000 in
set_option maxHeartbeats 2000000 in
theorem one_walk (a ka : Option Addr) (len cap klen kcap : Nat) (dl : List Nat) (w : World) (r : Reads w a len cap dl) (ki : Ints w ka klen) (hk : klen ≤ 9223372036854775807) (hs : len ≤ 140737488351232) :
    Calls Try.prog 4 #[.slice a len cap, .slice ka klen kcap] w fun x w' => x = .returned (.bool true) ∧ Below w.heap.size w w' := by
  have RH : Hid (Reads w a len cap dl) := r
  have KI : Hid (Ints w ka klen) := ki
  have hl := r.length
  have hb := r.bytes
  clear r ki
  go_enter Try.func4, Try.ntmps4
  have K0 : Hid (Kept (fun _ => False) w (w.alloc (.cells #[.int .u8 172, .int .u8 2] 5))) := (Kept.refl _ w).alloc _
  go_wp2_with (first | (at_builtin; refine wpList_append_bytes _ rfl (.tmp 11) (.tmp 12) 28 rfl w.heap.size (.slice (some ⟨w.heap.size, 0, none⟩) 2 2) 2 [172, 2] rfl (owns_lit2 w _ (Nat.le_refl _)) (.slice a len cap) len dl rfl (RH.out.kept K0.out (fun _ _ f => f)).src (by omega) (by simp) ?_; intro p c w1 ho hg _ nr) | fail)
  obtain ⟨L, hL⟩ : ∃ L, [172, 2] ++ dl = L := ⟨_, rfl⟩
  obtain ⟨M, hM⟩ : ∃ M, 2 + len = M := ⟨_, rfl⟩
  have hLM : L.length = M := by rw [← hL, ← hM]; simp; omega
  have hLb : ∀ c ∈ L, c < 256 := fun d hd => by
    rw [← hL] at hd
    rcases List.mem_append.1 hd with q | q
    · simp at q; omega
    · exact hb d q
  have hLp : Hid (Pk.parse 9223372036854775807 L = (300, 2, 0)) := by
    have := Pk.parse_form 9223372036854775807 300 dl (by omega) (by omega)
    rw [form300, hL] at this
    exact this
  have k1 : Kept (fun _ => False) w w1 := K0.out.grown hg.out (fun j hj q => by simp [Value.ownBlock] at q; omega)
  rw [hL, hM] at ho
  have h2M : Hid (2 ≤ M) := by show 2 ≤ M; omega
  have hM2 : M ≤ 140737488355328 := by omega
  rw [hM]
  clear hM hL
  obtain ⟨a2, c2, e2, r1, o1⟩ := owns_reads ho.out hLb
  simp at e2
  obtain ⟨rfl, rfl⟩ := e2
  have o2 : ∀ a, p = some a → w.heap.size ≤ a.block ∧ a.block < w1.heap.size := fun a ha => ho.out.lt _ (o1 a ha)
  have R1 : Hid (Reads w1 p M c L) := r1
  have O1 : Hid (∀ a, p = some a → w.heap.size ≤ a.block ∧ a.block < w1.heap.size) := o2
  have K1 : Hid (Kept (fun _ => False) w w1) := k1
  clear k1 r1 o1 o2 ho hg nr
  go_wp2_with fail
  refine (newReader p M c L w1 R1.out hM2).mono ?_
  rintro x w2 ⟨R, D, rfl, hR, hD, ir, k2⟩
  have IR : Hid (IsR w2 R D 0 0 L) := ir
  have K2 : Hid (Kept (fun _ => False) w1 w2) := k2
  have HR : Hid (w1.heap.size ≤ R ∧ ∀ j, D = some j → w1.heap.size ≤ j ∧ j < w2.heap.size) := ⟨hR, hD⟩
  clear ir k2 hR hD
  go_wp2_with fail
  refine (newWriter w2).mono ?_
  rintro x w3 ⟨rfl, hw3⟩
  have k3 : Kept (fun _ => False) w2 w3 := by rw [hw3]; exact (Kept.refl _ w2).alloc _
  have iw : IsW w3 w2.heap.size 0 (.slice none 0 0) [] := by rw [hw3]; exact IsW.new w2
  have hsz : w3.heap.size = w2.heap.size + 1 := by rw [hw3]; simp
  have IW : Hid (IsW w3 w2.heap.size 0 (.slice none 0 0) []) := iw
  have I3 : Hid (IsR w3 R D 0 0 L) := IR.out.kept k3 (fun f => f) (fun _ _ f => f)
  have K3 : Hid (Kept (fun _ => False) w2 w3) := k3
  have S3 : Hid (w3.heap.size = w2.heap.size + 1) := hsz
  have AP : Hid (Apart w2.heap.size (.slice none 0 0) D) := fun j hj q => by
    have := HR.out.2 j hj
    rcases q with q | q
    · omega
    · simp [Value.ownBlock] at q
  clear k3 iw hsz hw3
  obtain ⟨B, hB⟩ : ∃ B, w2.heap.size = B := ⟨_, rfl⟩
  have BH : Hid (w2.heap.size = B) := hB
  rw [hB] at IW S3 AP ⊢
  clear hB
  go_wp2_with fail
  refine (copy_first B (.slice none 0 0) [] R D 0 300 2 L w3 IW.out I3.out AP.out (by simp; omega) hLp.out).mono ?_
  rintro x w4 ⟨rfl, v, iw, ir, nr, k4⟩
  rw [List.nil_append] at iw
  have ON : Hid (One w w4 w3.heap.size B v R D 0 2 (L.drop 2) L p c) := by
    have f1 := K1.out.size
    have f2 := K2.out.size
    have f3 := S3.out
    have f4 := BH.out
    have f5 := k4.size
    have f6 := HR.out.1
    refine ⟨iw, ir, fun _ => rfl, Nat.le_refl _, by have := h2M.out; omega, fun j hj => ?_, ?_, fun a ha => ?_, fun j hj => ?_, ⟨by omega, by omega, by omega, by omega⟩, ?_⟩
    · rcases nr j hj with q | q
      · simp [Value.ownBlock] at q
      · exact q
    · rw [hLM]
      refine (((R1.out.kept K2.out (fun _ _ f => f)).kept K3.out (fun _ _ f => f)).kept k4 (fun a ha f => ?_))
      have := O1.out a ha
      rcases f with f | f | f
      · omega
      · omega
      · simp [Value.ownBlock] at f
    · have := O1.out a ha
      omega
    · have := HR.out.2 j hj
      omega
    · have b1 := (((K1.out.trans K2.out (fun _ _ f => f)).trans K3.out (fun _ _ f => f)).below (Nat.le_refl _) (fun _ f => f.elim))
      refine b1.trans (k4.below (by omega) (fun j f => ?_))
      rcases f with f | f | f
      · omega
      · omega
      · simp [Value.ownBlock] at f
  clear iw ir nr k4
  go_wp2_with fail
  refine (rErr R D 0 2 _ w4 ON.out.isR).mono ?_
  rintro x w5 ⟨rfl, rfl⟩
  go_wp2_with fail
  refine (rAt R D 0 2 _ w5 ON.out.isR).mono ?_
  rintro x w6 ⟨rfl, rfl⟩
  obtain ⟨N, hN⟩ : ∃ N, w3.heap.size = N := ⟨_, rfl⟩
  rw [hN] at ON
  clear hN
  go_wp2_with fail
  go_loopw [8] (fun x wr => ∃ (i : Nat) (v : Value) (e : Int) (k : Nat) (l : List Nat), x = .int .i64 (i : Int) ∧ i ≤ klen ∧ Hid (One w wr N B v R D e k l L p c)) (fun x _ => klen - (intOf x).toNat)
  case atStart => exact ⟨0, v, 0, 2, L.drop 2, rfl, Nat.zero_le _, ON⟩
  case round =>
    obtain ⟨i, v, e, k, l, rfl, hi, O⟩ := hrel
    by_cases hlt : i < klen
    · obtain ⟨kb, koff, rfl, hkc⟩ := KI.out (by omega)
      obtain ⟨z, hz⟩ := hkc i hlt
      have cz : wr.cell? ⟨kb, koff + i, none⟩ = some (.int .i64 z) := (O.out.below.cell (World.block_lt_of_cell? w _ hz)).trans hz
      have i1 : (i : Int) < (klen : Int) := by omega
      clear hkc hz
      go_wp2_with fail
      refine (copy_any B v (L.take k) R D e k l wr z O.out.isW O.out.isR O.out.apart (by have := O.out.length; omega)).mono ?_
      rintro x w7 ⟨rfl, C⟩
      obtain ⟨v2, e2, k2, l2, O2'⟩ := O.out.step C
      have O2 : Hid (One w w7 N B v2 R D e2 k2 l2 L p c) := O2'
      have lo := O2'.lo
      have hi2 : k2 ≤ M := hLM ▸ O2'.hi
      have hcM : M ≤ c := hLM ▸ O2'.all.room
      have hc63 := O2'.all.small
      unfold maxLen at hc63
      clear C O2'
      have q1 : ¬ ((k2 : Int) < 2) := by omega
      go_wp2_with fail
      refine (rAt R D e2 k2 l2 w7 O2.out.isR).mono ?_
      rintro x w8 ⟨rfl, rfl⟩
      go_wp2_with fail
      refine (rAt R D e2 k2 l2 w8 O2.out.isR).mono ?_
      rintro x w9 ⟨rfl, rfl⟩
      go_wp2_with fail
      refine (wData B 0 v2 _ w9 O2.out.isW (by rw [List.length_take]; omega)).mono ?_
      rintro x w10 ⟨p2, c3, rfl, ho3, k3⟩
      obtain ⟨a4, c4, e4, r4, _⟩ := owns_reads ho3 O2.out.isW.bytes
      simp at e4
      obtain ⟨rfl, rfl⟩ := e4
      have O3 : Hid (One w w10 N B v2 R D e2 k2 l2 L p c) := O2.out.quiet k3
      have R4 : Hid (Reads w10 p2 (L.take k2).length c3 (L.take k2)) := r4
      obtain ⟨tl, htl⟩ : ∃ t, (L.take k2).length = t := ⟨_, rfl⟩
      rw [htl] at R4
      rw [htl]
      clear ho3 k3 r4 O2 htl
      go_wp2_with fail
      refine (rAt R D e2 k2 l2 w10 O3.out.isR).mono ?_
      rintro x w11 ⟨rfl, rfl⟩
      go_wp2_with fail
      refine (same_any p2 p tl c3 k2 c (L.take k2) (L.take k2) w11 R4.out ((O3.out.all.take k2 (by omega))) true (by simp)).mono ?_
      rintro x w12 ⟨rfl, rfl⟩
      go_wp2_with fail
      go_roundw
      case rel => exact ⟨i + 1, v2, e2, k2, l2, by go_num, by omega, O3⟩
      case measure => simp [intOf]; omega
    · have hk' : klen = i := by omega
      subst hk'
      clear hlt hi
      have hi2 : k ≤ M := hLM ▸ O.out.hi
      go_wp2_with fail
      refine (rAt R D e k l wr O.out.isR).mono ?_
      rintro x w7 ⟨rfl, rfl⟩
      go_wp2_with fail
      refine (rErr R D e k l w7 O.out.isR).mono ?_
      rintro x w8 ⟨rfl, rfl⟩
      have fin : ∀ {wz : World} {e3 : Int} {l3 : List Nat}, Took w8 R D wz e3 k l3 → Below w.heap.size w wz := fun T => by
        have := O.out.nR
        exact O.out.below.trans (T.kept.below (by omega) (fun j f => by omega))
      have FIN : Hid (∀ {wz : World} {e3 : Int} {l3 : List Nat}, Took w8 R D wz e3 k l3 → Below w.heap.size w wz) := @fin
      clear fin
      by_cases he : e = 0
      · subst he
        have hl3 := O.out.rest rfl
        have hll : l.length = M - k := by rw [hl3, List.length_drop, hLM]
        clear hl3
        cases l with
        | nil =>
          have hkM : k = M := by simp at hll; omega
          subst hkM
          go_wp2_with fail
          refine (rEnd_ok R D 0 k w8 O.out.isR).mono ?_
          rintro x w9 ⟨rfl, rfl⟩
          go_wp2_with fail
          refine (rErr R D 0 k [] w9 O.out.isR).mono ?_
          rintro x w10 ⟨rfl, rfl⟩
          go_wp2_with fail
          refine (rAt R D 0 k [] w10 O.out.isR).mono ?_
          rintro x w11 ⟨rfl, rfl⟩
          go_wp2_with fail
          go_ret
          exact ⟨by simp, O.out.below⟩
        | cons d t =>
          have hkM : ((k : Int) == (M : Int)) = false := by simp at hll ⊢; omega
          clear hll
          go_wp2_with fail
          refine (rEnd_rest R D 0 k d t w8 O.out.isR).mono ?_
          rintro x w9 ⟨rfl, T⟩
          rw [first_zero] at T
          have TH : Hid (Took w8 R D w9 35 k []) := T
          clear T
          go_wp2_with fail
          refine (rErr R D 35 k [] w9 TH.out.isR).mono ?_
          rintro x w10 ⟨rfl, rfl⟩
          go_wp2_with fail
          refine (rAt R D 35 k [] w10 TH.out.isR).mono ?_
          rintro x w11 ⟨rfl, rfl⟩
          go_wp2_with fail
          go_ret
          exact ⟨by simp, FIN.out TH.out⟩
      · have hl3 := O.out.isR.quiet he
        subst hl3
        have he' : (e != 0) = true := by simpa using he
        go_wp2_with fail
        refine (rEnd_ok R D e k w8 O.out.isR).mono ?_
        rintro x w9 ⟨rfl, rfl⟩
        go_wp2_with fail
        refine (rErr R D e k [] w9 O.out.isR).mono ?_
        rintro x w10 ⟨rfl, rfl⟩
        go_wp2_with fail
        refine (rAt R D e k [] w10 O.out.isR).mono ?_
        rintro x w11 ⟨rfl, rfl⟩
        go_wp2_with fail
        refine (rByte_bad R D e k w11 O.out.isR).mono ?_
        rintro x w12 ⟨rfl, T⟩
        rw [first_ne e 30 he] at T
        have TH : Hid (Took w11 R D w12 e k []) := T
        clear T
        go_wp2_with fail
        refine (rUint_bad R D e 9223372036854775807 30 k 0 0 [] w12 TH.out.isR (Pk.parse_nil _) (by omega)).mono ?_
        rintro x w13 ⟨rfl, T⟩
        have T2 : Hid (Took w11 R D w13 (first e 30) k []) := ⟨T.isR, TH.out.kept.trans T.kept (fun j _ f => f)⟩
        clear T
        go_wp2_with fail
        go_ret
        exact ⟨by simp, FIN.out T2.out⟩
end Go.Proofs.Ytgfglbbfoadiaaa
