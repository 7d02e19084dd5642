import Derived.Test.YtgfglbbfoadiaaaRefNum
import Derived.Test.YtgfglbbfoadiaaaMore
import Derived.Deep.RegionHeld3
namespace Go.Proofs.Ytgfglbbfoadiaaa
open Go.RowKit

theorem slice_from {w : World} {a : Option Addr} {len cap : Nat} {l : List Nat} (r : Reads w a len cap l) (k : Nat) (hk : k ≤ len) :
    ∃ p c, (∀ W : World, (Instr.slice 28 (.slice a len cap) (some (.int .i64 (k : Int))) none none).run Try.prog W = .ok (.slice p (len - k) c) W) ∧ Reads w p (len - k) c (l.drop k) ∧ ∀ q, p = some q → ∃ q0, a = some q0 ∧ q.block = q0.block := by
  have hr := r.room
  have hs := r.small
  have hlen := r.length
  unfold maxLen at hs
  have gen : ∀ b off, a = some ⟨b, off, none⟩ → ∃ p c, (∀ W : World, (Instr.slice 28 (.slice a len cap) (some (.int .i64 (k : Int))) none none).run Try.prog W = .ok (.slice p (len - k) c) W) ∧ Reads w p (len - k) c (l.drop k) ∧ ∀ q, p = some q → ∃ q0, a = some q0 ∧ q.block = q0.block := fun b off ha => by
    subst ha
    by_cases hc : cap = k
    · refine ⟨some ⟨b, off, none⟩, 0, fun W => ?_, ⟨by rw [List.length_drop]; omega, by omega, by unfold maxLen; omega, fun d hd => r.bytes d (List.mem_of_mem_drop hd), fun q => absurd q (by omega)⟩, fun q hq => ⟨_, rfl, by cases hq; rfl⟩⟩
      simp [Instr.slice, Instr.sliceBounds, Instr.sliceBound, asIntOf, run_underlying Try.underlying28]
      rw [if_pos hk, if_pos hc, hc, Nat.sub_self]
    · refine ⟨some ⟨b, off + k, none⟩, cap - k, fun W => ?_, r.drop k hk, fun q hq => ⟨_, rfl, by cases hq; rfl⟩⟩
      simp [Instr.slice, Instr.sliceBounds, Instr.sliceBound, asIntOf, run_underlying Try.underlying28]
      rw [if_pos hk, if_neg hc, Addr.add_none]
  by_cases h0 : 0 < len
  · obtain ⟨b, off, ha, _⟩ := r.cells h0
    exact gen b off ha
  · have hl : len = 0 := by omega
    have hk0 : k = 0 := by omega
    subst hl
    subst hk0
    refine ⟨a, cap, fun W => ?_, by simpa using r, fun q hq => ⟨q, hq, rfl⟩⟩
    cases a with
    | none => simp [Instr.slice, Instr.sliceBounds, Instr.sliceBound, asIntOf, run_underlying Try.underlying28]
    | some ad =>
      simp [Instr.slice, Instr.sliceBounds, Instr.sliceBound, asIntOf, run_underlying Try.underlying28]
      intro _
      obtain ⟨b, off, spot⟩ := ad
      unfold Addr.add
      split <;> simp_all

/-- The document's reader: all its bytes, how many were taken, the first error. -/
structure IsQ (w : World) (Q : Nat) (D : Option Nat) (e : Int) (k : Nat) (L : List Nat) : Prop where
  ex : ∃ a cap, w.heap[Q]? = some (.cells #[.slice a L.length cap, .int .i64 (k : Int), .int .i64 e] 83 (0, 0)) ∧ Reads w a L.length cap L ∧ ∀ p, a = some p → D = some p.block
  ne : D ≠ some Q
  le : k ≤ L.length
theorem IsQ.lt {w : World} {Q : Nat} {D : Option Nat} {e : Int} {k : Nat} {L : List Nat} (h : IsQ w Q D e k L) : Q < w.heap.size := by
  obtain ⟨_, _, b, _⟩ := h.ex; exact block_lt b
theorem IsQ.kept {S : Nat → Prop} {w w' : World} {Q : Nat} {D : Option Nat} {e : Int} {k : Nat} {L : List Nat} (h : IsQ w Q D e k L) (q : Kept S w w') (h1 : ¬ S Q) (h2 : ∀ j, D = some j → ¬ S j) : IsQ w' Q D e k L := by
  obtain ⟨a, cap, b, r, hd⟩ := h.ex
  exact ⟨⟨a, cap, q.get b h1, r.kept q (fun p hp => h2 _ (hd p hp)), hd⟩, h.ne, h.le⟩
structure TookQ (w : World) (Q : Nat) (D : Option Nat) (w' : World) (e : Int) (k : Nat) (L : List Nat) : Prop where
  isQ : IsQ w' Q D e k L
  kept : Kept (fun j => j = Q) w w'
/-- The two numbers are written. -/
theorem IsQ.set {w : World} {Q : Nat} {D : Option Nat} {e : Int} {k : Nat} {L : List Nat} {a : Option Addr} {cap : Nat} (h : IsQ w Q D e k L) (r : Reads w a L.length cap L) (hd : ∀ p, a = some p → D = some p.block)
    {w' : World} (q : Kept (fun j => j = Q) w w') {e2 : Int} {k2 : Nat} (b2 : w'.heap[Q]? = some (.cells #[.slice a L.length cap, .int .i64 (k2 : Int), .int .i64 e2] 83 (0, 0))) (hk : k2 ≤ L.length) : TookQ w Q D w' e2 k2 L :=
  ⟨⟨⟨a, cap, b2, r.kept q (fun p hp f => h.ne (by rw [hd p hp, f])), hd⟩, h.ne, hk⟩, q⟩
theorem qErr (Q : Nat) (D : Option Nat) (e : Int) (k : Nat) (L : List Nat) (w : World) (h : IsQ w Q D e k L) : Calls Try.prog 61 #[.pointer (some ⟨Q, 0, none⟩)] w fun x w' => x = .returned (.int .i64 e) ∧ w' = w := by
  obtain ⟨a, cap, hb, r, hd⟩ := h.ex
  have c0 := cell_blk hb 2 (v := .int .i64 e) rfl
  clear h hb r hd
  go_enter Try.func61, Try.ntmps61
  go_wp2_with fail
  go_ret
  exact ⟨rfl, rfl⟩
theorem qAt (Q : Nat) (D : Option Nat) (e : Int) (k : Nat) (L : List Nat) (w : World) (h : IsQ w Q D e k L) : Calls Try.prog 62 #[.pointer (some ⟨Q, 0, none⟩)] w fun x w' => x = .returned (.int .i64 (k : Int)) ∧ w' = w := by
  obtain ⟨a, cap, hb, r, hd⟩ := h.ex
  have c0 := cell_blk hb 1 (v := .int .i64 (k : Int)) rfl
  clear h hb r hd
  go_enter Try.func62, Try.ntmps62
  go_wp2_with fail
  go_ret
  exact ⟨rfl, rfl⟩
theorem qUint_err (Q : Nat) (D : Option Nat) (e most : Int) (k : Nat) (L : List Nat) (w : World) (h : IsQ w Q D e k L) (he : e ≠ 0) : Calls Try.prog 55 #[.pointer (some ⟨Q, 0, none⟩), .int .i64 most] w fun x w' => x = .returned (.int .i64 0) ∧ w' = w := by
  obtain ⟨a, cap, hb, r, hd⟩ := h.ex
  have c0 := cell_blk hb 2 (v := .int .i64 e) rfl
  have he' : (e != 0) = true := by simpa using he
  clear h hb r hd
  go_enter Try.func55, Try.ntmps55
  go_wp2_with fail
  go_ret
  exact ⟨rfl, rfl⟩
set_option maxRecDepth 100000 in
set_option maxHeartbeats 1000000 in
theorem qUint (Q : Nat) (D : Option Nat) (most x : Int) (k n s : Nat) (L : List Nat) (w : World) (h : IsQ w Q D 0 k L) (hv : Pk.parse most (L.drop k) = (n, s, x)) (hs : k + s ≤ L.length) (hL : L.length ≤ 140737488355328) :
    Calls Try.prog 55 #[.pointer (some ⟨Q, 0, none⟩), .int .i64 most] w fun y w' => y = .returned (.int .i64 (n : Int)) ∧ TookQ w Q D w' x (k + s) L := by
  have HH : Hid (IsQ w Q D 0 k L) := h
  obtain ⟨a, cap, hb, r, hd⟩ := h.ex
  have hle := h.le
  obtain ⟨p, c, sl, rs, _⟩ := slice_from r k h.le
  have BH : Hid (w.heap[Q]? = some (.cells #[.slice a L.length cap, .int .i64 (k : Int), .int .i64 0] 83 (0, 0))) := hb
  have RH : Hid (Reads w a L.length cap L) := r
  have DH : Hid (∀ p, a = some p → D = some p.block) := hd
  obtain ⟨len, hlen⟩ : ∃ m, L.length = m := ⟨_, rfl⟩
  have LH : Hid (L.length = len) := hlen
  have N : Hid (∀ m, Calls Try.prog 65 #[.slice p (L.length - k) c, .int .i64 most] (w.drewN m) fun y w' => y = .returned (.tuple #[.int .i64 (n : Int), .int .i64 (s : Int), .int .i64 x]) ∧ w' = w.drewN m) := fun m =>
    refNum p (L.length - k) c most (L.drop k) (w.drewN m) n s x (rs.kept ((Kept.refl (fun _ => False) w).drewN m) (fun _ _ f => f)) hv
  have c0 := cell_blk hb 0 (v := .slice a L.length cap) rfl
  have c1 := cell_blk hb 1 (v := .int .i64 (k : Int)) rfl
  have c2 := cell_blk hb 2 (v := .int .i64 0) rfl
  have z1 := soft_blk hb 1
  have z2 := soft_blk hb 2
  rw [hlen] at sl N c0 hs hle hL
  clear h hb r hd rs hv hlen
  go_enter Try.func55, Try.ntmps55
  go_wp2_with fail
  go_quiet (first | (go_at_call 65; exact Calls.quiet_of_same (N.out _)) | fail)
  go_wp2_with fail
  go_ret
  refine ⟨rfl, ?_⟩
  have hL := LH.out
  have q : Kept (fun j => j = Q) w (((w.drewN nq).setCell ⟨Q, 2, none⟩ (.int .i64 x)).setCell ⟨Q, 1, none⟩ (.int .i64 ((k : Int) + (s : Int)))) :=
    (((Kept.refl (fun j => j = Q) w).drewN nq).setCell (p := ⟨Q, 2, none⟩) (fun _ => rfl) _).setCell (p := ⟨Q, 1, none⟩) (fun _ => rfl) _
  have b0 : (w.drewN nq).heap[Q]? = some (.cells #[.slice a L.length cap, .int .i64 (k : Int), .int .i64 0] 83 (0, 0)) := BH.out
  exact IsQ.set HH.out RH.out DH.out q (heap_set (heap_set b0 2 (.int .i64 x)) 1 (.int .i64 ((k : Int) + (s : Int)))) (by omega)

theorem qByte_err (Q : Nat) (D : Option Nat) (e : Int) (k : Nat) (L : List Nat) (w : World) (h : IsQ w Q D e k L) (he : e ≠ 0) : Calls Try.prog 56 #[.pointer (some ⟨Q, 0, none⟩)] w fun x w' => x = .returned (.int .u8 0) ∧ w' = w := by
  obtain ⟨a, cap, hb, r, hd⟩ := h.ex
  have c0 := cell_blk hb 2 (v := .int .i64 e) rfl
  have he' : (e != 0) = true := by simpa using he
  clear h hb r hd
  go_enter Try.func56, Try.ntmps56
  go_wp2_with fail
  go_ret
  exact ⟨rfl, rfl⟩
set_option maxRecDepth 100000 in
theorem qByte_short (Q : Nat) (D : Option Nat) (k : Nat) (L : List Nat) (w : World) (h : IsQ w Q D 0 k L) (hk : L.length = k) :
    Calls Try.prog 56 #[.pointer (some ⟨Q, 0, none⟩)] w fun y w' => y = .returned (.int .u8 0) ∧ TookQ w Q D w' 30 k L := by
  have HH : Hid (IsQ w Q D 0 k L) := h
  obtain ⟨a, cap, hb, r, hd⟩ := h.ex
  have BH : Hid (w.heap[Q]? = some (.cells #[.slice a L.length cap, .int .i64 (k : Int), .int .i64 0] 83 (0, 0))) := hb
  have RH : Hid (Reads w a L.length cap L) := r
  have DH : Hid (∀ p, a = some p → D = some p.block) := hd
  have LH : Hid (L.length = k) := hk
  have c0 := cell_blk hb 0 (v := .slice a L.length cap) rfl
  have c1 := cell_blk hb 1 (v := .int .i64 (k : Int)) rfl
  have c2 := cell_blk hb 2 (v := .int .i64 0) rfl
  have z2 := soft_blk hb 2
  rw [hk] at c0
  clear h hb r hd hk
  go_enter Try.func56, Try.ntmps56
  go_wp2_with fail
  go_quiet (fail)
  go_wp2_with fail
  go_ret
  refine ⟨rfl, ?_⟩
  have hL := LH.out
  have b0 : (w.drewN nq).heap[Q]? = some (.cells #[.slice a L.length cap, .int .i64 (k : Int), .int .i64 0] 83 (0, 0)) := BH.out
  exact IsQ.set HH.out RH.out DH.out (((Kept.refl (fun j => j = Q) w).drewN nq).setCell (p := ⟨Q, 2, none⟩) (fun _ => rfl) _) (heap_set b0 2 (.int .i64 30)) (by omega)
set_option maxRecDepth 100000 in
theorem qByte_ok (Q : Nat) (D : Option Nat) (k : Nat) (L : List Nat) (w : World) (h : IsQ w Q D 0 k L) (hk : k < L.length) (hL : L.length ≤ 140737488355328) (c : Nat) (hc : L.getD k 0 = c) :
    Calls Try.prog 56 #[.pointer (some ⟨Q, 0, none⟩)] w fun y w' => y = .returned (.int .u8 (c : Int)) ∧ TookQ w Q D w' 0 (k + 1) L := by
  have HH : Hid (IsQ w Q D 0 k L) := h
  obtain ⟨a, cap, hb, r, hd⟩ := h.ex
  have BH : Hid (w.heap[Q]? = some (.cells #[.slice a L.length cap, .int .i64 (k : Int), .int .i64 0] 83 (0, 0))) := hb
  have RH : Hid (Reads w a L.length cap L) := r
  have DH : Hid (∀ p, a = some p → D = some p.block) := hd
  obtain ⟨b, off, rfl, hcl⟩ := r.cells (by omega)
  have cd : Hid (w.cell? ⟨b, off + k, none⟩ = some (.int .u8 (c : Int))) := by have := hcl k hk; rw [hc] at this; exact this
  have bQ : Hid (b ≠ Q) := fun f => h.ne (by rw [hd _ rfl, ← f])
  obtain ⟨len, hlen⟩ : ∃ m, L.length = m := ⟨_, rfl⟩
  have LH : Hid (L.length = len) := hlen
  have c0 := cell_blk hb 0 (v := .slice (some ⟨b, off, none⟩) L.length cap) rfl
  have c1 := cell_blk hb 1 (v := .int .i64 (k : Int)) rfl
  have c2 := cell_blk hb 2 (v := .int .i64 0) rfl
  have z1 := soft_blk hb 1
  rw [hlen] at c0 hk hL
  have ne : ((k : Int) == (len : Int)) = false := by simp; omega
  have k1 : (k : Int) < (len : Int) := by omega
  clear h hb r hd hlen hcl hc
  go_enter Try.func56, Try.ntmps56
  go_wp2_with fail
  go_quiet (fail)
  go_wp2_with fail
  have b0 : (w.drewN nq).heap[Q]? = some (.cells #[.slice (some ⟨b, off, none⟩) L.length cap, .int .i64 (k : Int), .int .i64 0] 83 (0, 0)) := BH.out
  have kq : Kept (fun j => j = Q) w ((w.drewN nq).setCell ⟨Q, 1, none⟩ (.int .i64 ((k : Int) + 1))) := ((Kept.refl (fun j => j = Q) w).drewN nq).setCell (p := ⟨Q, 1, none⟩) (fun _ => rfl) _
  have b1 := heap_set b0 1 (.int .i64 ((k : Int) + 1))
  have T : Hid (TookQ w Q D ((w.drewN nq).setCell ⟨Q, 1, none⟩ (.int .i64 ((k : Int) + 1))) 0 (k + 1) L) := IsQ.set HH.out RH.out DH.out kq b1 (by rw [LH.out]; omega)
  have d0 := cell_blk b1 0 (v := .slice (some ⟨b, off, none⟩) L.length cap) rfl
  have d1 := cell_blk b1 1 (v := .int .i64 ((k : Int) + 1)) rfl
  have d2 := kq.cell cd.out bQ.out
  rw [LH.out] at d0
  obtain ⟨W1, hW⟩ : ∃ W1, (w.drewN nq).setCell ⟨Q, 1, none⟩ (.int .i64 ((k : Int) + 1)) = W1 := ⟨_, rfl⟩
  rw [hW] at T d0 d1 d2 ⊢
  have e1 : (k : Int) + 1 - 1 = (k : Int) := by omega
  clear b0 kq b1 hW
  go_quiet (fail)
  go_wp2_with fail
  go_ret
  exact ⟨rfl, ⟨T.out.isQ.kept ((Kept.refl (fun _ => False) W1).drewN _) (fun f => f) (fun _ _ f => f), T.out.kept.drewN _⟩⟩

theorem qBool_err (Q : Nat) (D : Option Nat) (e : Int) (k : Nat) (L : List Nat) (w : World) (h : IsQ w Q D e k L) (he : e ≠ 0) : Calls Try.prog 57 #[.pointer (some ⟨Q, 0, none⟩)] w fun x w' => x = .returned (.bool false) ∧ w' = w := by
  obtain ⟨a, cap, hb, r, hd⟩ := h.ex
  have c0 := cell_blk hb 2 (v := .int .i64 e) rfl
  have he' : (e != 0) = true := by simpa using he
  clear h hb r hd
  go_enter Try.func57, Try.ntmps57
  go_wp2_with fail
  go_ret
  exact ⟨rfl, rfl⟩
set_option maxRecDepth 100000 in
theorem qBool_short (Q : Nat) (D : Option Nat) (k : Nat) (L : List Nat) (w : World) (h : IsQ w Q D 0 k L) (hk : L.length = k) :
    Calls Try.prog 57 #[.pointer (some ⟨Q, 0, none⟩)] w fun y w' => y = .returned (.bool false) ∧ TookQ w Q D w' 30 k L := by
  have HH : Hid (IsQ w Q D 0 k L) := h
  obtain ⟨a, cap, hb, r, hd⟩ := h.ex
  have BH : Hid (w.heap[Q]? = some (.cells #[.slice a L.length cap, .int .i64 (k : Int), .int .i64 0] 83 (0, 0))) := hb
  have RH : Hid (Reads w a L.length cap L) := r
  have DH : Hid (∀ p, a = some p → D = some p.block) := hd
  have LH : Hid (L.length = k) := hk
  have c0 := cell_blk hb 0 (v := .slice a L.length cap) rfl
  have c1 := cell_blk hb 1 (v := .int .i64 (k : Int)) rfl
  have c2 := cell_blk hb 2 (v := .int .i64 0) rfl
  have z2 := soft_blk hb 2
  rw [hk] at c0
  clear h hb r hd hk
  go_enter Try.func57, Try.ntmps57
  go_wp2_with fail
  go_quiet (fail)
  go_wp2_with fail
  go_ret
  refine ⟨rfl, ?_⟩
  have hL := LH.out
  have b0 : (w.drewN nq).heap[Q]? = some (.cells #[.slice a L.length cap, .int .i64 (k : Int), .int .i64 0] 83 (0, 0)) := BH.out
  exact IsQ.set HH.out RH.out DH.out (((Kept.refl (fun j => j = Q) w).drewN nq).setCell (p := ⟨Q, 2, none⟩) (fun _ => rfl) _) (heap_set b0 2 (.int .i64 30)) (by omega)
set_option maxRecDepth 100000 in
theorem qBool_form (Q : Nat) (D : Option Nat) (k : Nat) (L : List Nat) (w : World) (h : IsQ w Q D 0 k L) (hk : k < L.length) (hL : L.length ≤ 140737488355328) (c : Nat) (hc : L.getD k 0 = c) (h1 : 1 < c) :
    Calls Try.prog 57 #[.pointer (some ⟨Q, 0, none⟩)] w fun y w' => y = .returned (.bool false) ∧ TookQ w Q D w' 31 k L := by
  have HH : Hid (IsQ w Q D 0 k L) := h
  obtain ⟨a, cap, hb, r, hd⟩ := h.ex
  have BH : Hid (w.heap[Q]? = some (.cells #[.slice a L.length cap, .int .i64 (k : Int), .int .i64 0] 83 (0, 0))) := hb
  have RH : Hid (Reads w a L.length cap L) := r
  have DH : Hid (∀ p, a = some p → D = some p.block) := hd
  obtain ⟨b, off, rfl, hcl⟩ := r.cells (by omega)
  have cd : w.cell? ⟨b, off + k, none⟩ = some (.int .u8 ((c : Nat) : Int)) := by have := hcl k hk; rw [hc] at this; exact this
  have CD : Hid (w.cell? ⟨b, off + k, none⟩ = some (.int .u8 ((c : Nat) : Int))) := cd
  have bQ : Hid (b ≠ Q) := fun f => h.ne (by rw [hd _ rfl, ← f])
  obtain ⟨len, hlen⟩ : ∃ m, L.length = m := ⟨_, rfl⟩
  have LH : Hid (L.length = len) := hlen
  have c0 := cell_blk hb 0 (v := .slice (some ⟨b, off, none⟩) L.length cap) rfl
  have c1 := cell_blk hb 1 (v := .int .i64 (k : Int)) rfl
  have c2 := cell_blk hb 2 (v := .int .i64 0) rfl
  have z1 := soft_blk hb 1
  have z2 := soft_blk hb 2
  rw [hlen] at c0 hk hL
  have ne : ((k : Int) == (len : Int)) = false := by simp; omega
  have k1 : (k : Int) < (len : Int) := by omega
  clear h hb r hd hlen hcl hc
  have c1' : (1 : Int) < (c : Int) := by omega
  go_enter Try.func57, Try.ntmps57
  go_wp2_with fail
  go_quiet (fail)
  go_wp2_with fail
  go_quiet (fail)
  go_wp2_with fail
  go_ret
  refine ⟨rfl, ?_⟩
  exact IsQ.set HH.out RH.out DH.out (((Kept.refl (fun j => j = Q) w).drewN _).setCell (p := ⟨Q, 2, none⟩) (fun _ => rfl) _) (heap_set (w := w.drewN _) BH.out 2 (.int .i64 31)) (by rw [LH.out]; omega)
set_option maxRecDepth 100000 in
theorem qBool_ok (Q : Nat) (D : Option Nat) (k : Nat) (L : List Nat) (w : World) (h : IsQ w Q D 0 k L) (hk : k < L.length) (hL : L.length ≤ 140737488355328) (z : Bool) (hc : L.getD k 0 = yn z) :
    Calls Try.prog 57 #[.pointer (some ⟨Q, 0, none⟩)] w fun y w' => y = .returned (.bool z) ∧ TookQ w Q D w' 0 (k + 1) L := by
  have HH : Hid (IsQ w Q D 0 k L) := h
  obtain ⟨a, cap, hb, r, hd⟩ := h.ex
  have BH : Hid (w.heap[Q]? = some (.cells #[.slice a L.length cap, .int .i64 (k : Int), .int .i64 0] 83 (0, 0))) := hb
  have RH : Hid (Reads w a L.length cap L) := r
  have DH : Hid (∀ p, a = some p → D = some p.block) := hd
  obtain ⟨b, off, rfl, hcl⟩ := r.cells (by omega)
  have cd : w.cell? ⟨b, off + k, none⟩ = some (.int .u8 (((yn z) : Nat) : Int)) := by have := hcl k hk; rw [hc] at this; exact this
  have CD : Hid (w.cell? ⟨b, off + k, none⟩ = some (.int .u8 (((yn z) : Nat) : Int))) := cd
  have bQ : Hid (b ≠ Q) := fun f => h.ne (by rw [hd _ rfl, ← f])
  obtain ⟨len, hlen⟩ : ∃ m, L.length = m := ⟨_, rfl⟩
  have LH : Hid (L.length = len) := hlen
  have c0 := cell_blk hb 0 (v := .slice (some ⟨b, off, none⟩) L.length cap) rfl
  have c1 := cell_blk hb 1 (v := .int .i64 (k : Int)) rfl
  have c2 := cell_blk hb 2 (v := .int .i64 0) rfl
  have z1 := soft_blk hb 1
  have z2 := soft_blk hb 2
  rw [hlen] at c0 hk hL
  have ne : ((k : Int) == (len : Int)) = false := by simp; omega
  have k1 : (k : Int) < (len : Int) := by omega
  clear h hb r hd hlen hcl hc
  obtain ⟨c, hcz⟩ : ∃ c, yn z = c := ⟨_, rfl⟩
  have c01 : ¬ (1 : Int) < (c : Int) := by rw [← hcz]; unfold yn; split <;> omega
  have cz : ((c : Int) == 1) = z := by rw [← hcz]; cases z <;> rfl
  rw [hcz] at cd CD
  clear hcz
  go_enter Try.func57, Try.ntmps57
  go_wp2_with fail
  go_quiet (fail)
  go_wp2_with fail
  generalize nq = n1
  go_quiet (fail)
  go_wp2_with fail
  have b0 : (w.drewN (n1 + nq)).heap[Q]? = some (.cells #[.slice (some ⟨b, off, none⟩) L.length cap, .int .i64 (k : Int), .int .i64 0] 83 (0, 0)) := BH.out
  have kq : Kept (fun j => j = Q) w ((w.drewN (n1 + nq)).setCell ⟨Q, 1, none⟩ (.int .i64 ((k : Int) + 1))) := ((Kept.refl (fun j => j = Q) w).drewN (n1 + nq)).setCell (p := ⟨Q, 1, none⟩) (fun _ => rfl) _
  have b1 := heap_set b0 1 (.int .i64 ((k : Int) + 1))
  have T : Hid (TookQ w Q D ((w.drewN (n1 + nq)).setCell ⟨Q, 1, none⟩ (.int .i64 ((k : Int) + 1))) 0 (k + 1) L) := IsQ.set HH.out RH.out DH.out kq b1 (by rw [LH.out]; omega)
  have d0 := cell_blk b1 0 (v := .slice (some ⟨b, off, none⟩) L.length cap) rfl
  have d1 := cell_blk b1 1 (v := .int .i64 ((k : Int) + 1)) rfl
  have d2 := kq.cell CD.out bQ.out
  rw [LH.out] at d0
  obtain ⟨W1, hW⟩ : ∃ W1, (w.drewN (n1 + nq)).setCell ⟨Q, 1, none⟩ (.int .i64 ((k : Int) + 1)) = W1 := ⟨_, rfl⟩
  rw [hW] at T d0 d1 d2 ⊢
  have e1 : (k : Int) + 1 - 1 = (k : Int) := by omega
  clear b0 kq b1 hW
  go_quiet (fail)
  go_wp2_with fail
  go_ret
  exact ⟨rfl, ⟨T.out.isQ.kept ((Kept.refl (fun _ => False) W1).drewN _) (fun f => f) (fun _ _ f => f), T.out.kept.drewN _⟩⟩

theorem qEnd_err (Q : Nat) (D : Option Nat) (e : Int) (k : Nat) (L : List Nat) (w : World) (h : IsQ w Q D e k L) (he : e ≠ 0) : Calls Try.prog 60 #[.pointer (some ⟨Q, 0, none⟩)] w fun x w' => x = .returned (.tuple #[]) ∧ Kept (fun _ => False) w w' := by
  obtain ⟨a, cap, hb, r, hd⟩ := h.ex
  have c2 := cell_blk hb 2 (v := .int .i64 e) rfl
  have he' : (e == 0) = false := by simpa using he
  clear h hb r hd
  go_enter Try.func60, Try.ntmps60
  go_wp2_with fail
  go_quiet (fail)
  go_wp2_with fail
  go_end0
  exact ⟨rfl, (Kept.refl _ w).drewN _⟩
set_option maxRecDepth 100000 in
theorem qEnd_ok (Q : Nat) (D : Option Nat) (k : Nat) (L : List Nat) (w : World) (h : IsQ w Q D 0 k L) (hk : L.length = k) :
    Calls Try.prog 60 #[.pointer (some ⟨Q, 0, none⟩)] w fun y w' => y = .returned (.tuple #[]) ∧ Kept (fun _ => False) w w' := by
  obtain ⟨a, cap, hb, r, hd⟩ := h.ex
  have c0 := cell_blk hb 0 (v := .slice a L.length cap) rfl
  have c1 := cell_blk hb 1 (v := .int .i64 (k : Int)) rfl
  have c2 := cell_blk hb 2 (v := .int .i64 0) rfl
  rw [hk] at c0
  have n1 : decide ((k : Int) < (k : Int)) = false := by simp
  clear h hb r hd hk
  go_enter Try.func60, Try.ntmps60
  go_wp2_with fail
  go_quiet (fail)
  go_wp2_with fail
  go_end0
  exact ⟨rfl, (Kept.refl _ w).drewN _⟩
set_option maxRecDepth 100000 in
theorem qEnd_rest (Q : Nat) (D : Option Nat) (k : Nat) (L : List Nat) (w : World) (h : IsQ w Q D 0 k L) (hk : k < L.length) :
    Calls Try.prog 60 #[.pointer (some ⟨Q, 0, none⟩)] w fun y w' => y = .returned (.tuple #[]) ∧ TookQ w Q D w' 35 k L := by
  have HH : Hid (IsQ w Q D 0 k L) := h
  obtain ⟨a, cap, hb, r, hd⟩ := h.ex
  have BH : Hid (w.heap[Q]? = some (.cells #[.slice a L.length cap, .int .i64 (k : Int), .int .i64 0] 83 (0, 0))) := hb
  have RH : Hid (Reads w a L.length cap L) := r
  have DH : Hid (∀ p, a = some p → D = some p.block) := hd
  obtain ⟨len, hlen⟩ : ∃ m, L.length = m := ⟨_, rfl⟩
  have LH : Hid (L.length = len) := hlen
  have c0 := cell_blk hb 0 (v := .slice a L.length cap) rfl
  have c1 := cell_blk hb 1 (v := .int .i64 (k : Int)) rfl
  have c2 := cell_blk hb 2 (v := .int .i64 0) rfl
  have z2 := soft_blk hb 2
  rw [hlen] at c0 hk
  have k1 : (k : Int) < (len : Int) := by omega
  clear h hb r hd hlen
  go_enter Try.func60, Try.ntmps60
  go_wp2_with fail
  go_quiet (fail)
  go_wp2_with fail
  go_end0
  exact ⟨rfl, IsQ.set HH.out RH.out DH.out (((Kept.refl (fun j => j = Q) w).drewN _).setCell (p := ⟨Q, 2, none⟩) (fun _ => rfl) _) (heap_set (w := w.drewN _) BH.out 2 (.int .i64 35)) (by rw [LH.out]; omega)⟩
end Go.Proofs.Ytgfglbbfoadiaaa
