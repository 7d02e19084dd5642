import Derived.Test.YtbnnmelkbjkkjaaAct
namespace Go.Proofs.Ytbnnmelkbjkkjaa
open Go.RowKit

theorem AB.Ok.tick {A : AB} (h : A.Ok) : A.tick.Ok := ⟨h.w0, h.w1, h.n0, h.n1, h.acts, by
  have := h.named
  show (0 : Int) ≤ (if A.named - 1 < 0 then 0 else A.named - 1) ∧ (if A.named - 1 < 0 then 0 else A.named - 1) < (9223372036854775808 : Int)
  split <;> omega⟩
theorem AB.add_same (A : AB) (i : Nat) (l : List Nat) : (A.add i l).acts = A.acts ∧ (A.add i l).dead = A.dead := by
  unfold AB.add AB.more
  split
  · exact ⟨rfl, rfl⟩
  · split <;> exact ⟨rfl, rfl⟩
theorem AB.more_same (A : AB) (i : Nat) (x : Option (List Nat)) : (A.more i x).acts = A.acts ∧ (A.more i x).dead = A.dead := by
  unfold AB.more
  split <;> exact ⟨rfl, rfl⟩
theorem AB.sync_same (A : AB) (i : Nat) : (A.sync i).acts = A.acts ∧ (A.sync i).dead = A.dead := by
  unfold AB.sync
  split <;> exact ⟨rfl, rfl⟩
theorem cells_at {w : World} {b : Nat} {v : Value} {t : TypeId} (h : w.heap[b]? = some (.cells #[v] t (0, 0))) : w.cell? ⟨b, 0, none⟩ = some v := cell_blk h 0 rfl
set_option maxRecDepth 100000 in
theorem dAppend_bad (base B : Nat) (d : DK) (i : Int) (a : Option Addr) (n c : Nat) (w : World) (h : IsD base w B d) (hl : lookE d.ab i ≠ 0) :
    Calls Try.prog 12 #[.pointer (some ⟨B, 0, none⟩), .int .i64 i, .slice a n c] w fun x w' => x = .returned (.int .i64 (lookE d.ab i)) ∧ Kept (fun _ => False) w w' := by
  obtain ⟨W, hW⟩ : ∃ W, W = (((w.alloc (.cells #[.pointer (some ⟨B, 0, none⟩)] 27)).alloc (.cells #[.int .i64 i] 3)).alloc (.cells #[.slice a n c] 22)) := ⟨_, rfl⟩
  have EW : Hid (W = (((w.alloc (.cells #[.pointer (some ⟨B, 0, none⟩)] 27)).alloc (.cells #[.int .i64 i] 3)).alloc (.cells #[.slice a n c] 22))) := hW
  have X : Hid (IsD base W B d ∧ Kept (fun _ => False) w W) := by
    have K : Kept (fun _ => False) w W := by rw [hW]; exact (((Kept.refl _ w).alloc _).alloc _).alloc _
    exact ⟨h.kept0 K, K⟩
  obtain ⟨e, he⟩ : ∃ e, lookE d.ab i = e := ⟨_, rfl⟩
  rw [he] at hl
  have HE : Hid (lookE d.ab i = e) := he
  clear h hW he
  go_enter Try.func12, Try.ntmps12
  go_wp2_with fail
  rw [← EW.out]
  refine (look base B d i W X.out.1).mono ?_
  rintro x w1 ⟨rfl, rfl⟩
  rw [HE.out]
  go_wp2_with fail
  go_ret
  exact ⟨by rw [HE.out]; rfl, X.out.2⟩
set_option maxRecDepth 100000 in
theorem dAppend_0 (base B : Nat) (d : DK) (a : Option Addr) (n c : Nat) (w : World) (l : List Nat) (h : IsD base w B d) (hd : d.dead = false) (hN : d.named ≠ 1) (ok : d.ab.Ok) (r : Reads w a n c l) (hn : n ≤ Lim) (hrB : ∀ k, blockOf a = some k → k ≠ B) :
    Calls Try.prog 12 #[.pointer (some ⟨B, 0, none⟩), .int .i64 0, .slice a n c] w fun x w' => x = .returned (.int .i64 0) ∧ ∃ d', IsD base w' B d' ∧ DM w w' B d d' ∧ d'.ab = (d.ab.tick.add 0 l).counted := by
  obtain ⟨W, hW⟩ : ∃ W, W = (((w.alloc (.cells #[.pointer (some ⟨B, 0, none⟩)] 27)).alloc (.cells #[.int .i64 0] 3)).alloc (.cells #[.slice a n c] 22)) := ⟨_, rfl⟩
  have EW : Hid (W = (((w.alloc (.cells #[.pointer (some ⟨B, 0, none⟩)] 27)).alloc (.cells #[.int .i64 0] 3)).alloc (.cells #[.slice a n c] 22))) := hW
  have KW : Kept (fun _ => False) w W := by rw [hW]; exact (((Kept.refl _ w).alloc _).alloc _).alloc _
  have hB := block_lt h.blk
  have x1 : W.cell? ⟨w.heap.size, 0, none⟩ = some (.pointer (some ⟨B, 0, none⟩)) := by rw [hW]; exact cells_at (get_alloc (get_alloc (alloc_new _ _)))
  have x2 : W.cell? ⟨w.heap.size + 1, 0, none⟩ = some (.int .i64 0) := by rw [hW]; exact cells_at (get_alloc (alloc_new2 _ _ _ _))
  have x3 : W.cell? ⟨w.heap.size + 1 + 1, 0, none⟩ = some (.slice a n c) := by
    have q := alloc_new (((w.alloc (.cells #[.pointer (some ⟨B, 0, none⟩)] 27)).alloc (.cells #[.int .i64 0] 3))) (.cells #[.slice a n c] 22)
    rw [alloc_size, alloc_size] at q
    rw [hW]
    exact cells_at q
  have LE : Hid (lookE d.ab 0 = 0) := by show lookE d.ab 0 = 0; unfold lookE; rw [if_neg (by show ¬ d.dead = true; rw [hd]; decide), if_pos (by decide)]
  have X : Hid (IsD base W B d ∧ Kept (fun _ => False) w W) := ⟨h.kept0 KW, KW⟩
  have AC : Hid (∀ V : World, Kept (fun _ => False) W V → Calls Try.prog 37 #[.pointer (some ⟨B, 0, none⟩), .func (.func 38) #[] #[.pointer (some ⟨w.heap.size, 0, none⟩), .pointer (some ⟨w.heap.size + 1, 0, none⟩), .pointer (some ⟨w.heap.size + 1 + 1, 0, none⟩)]] V fun x w' => x = .returned (.int .i64 0) ∧ ∃ d', IsD base w' B d' ∧ DM w w' B d d' ∧ d'.ab = (d.ab.tick.add 0 l).counted) := fun V KV => by
    have KW := KW.trans KV (fun _ _ z => z)
    have x1 := KV.cell x1 (fun z => z)
    have x2 := KV.cell x2 (fun z => z)
    have x3 := KV.cell x3 (fun z => z)
    have fl : ∀ k, d.Foot B k → k < w.heap.size := fun k hk => h.lt hk.uses
    refine (act38 base B d w.heap.size (w.heap.size + 1) (w.heap.size + 1 + 1) V (fun A => A.add 0 l) (h.kept0 KW) hd hN ok (fun A => A.add_same 0 l) (fun w1 d1 i1 _ a1 k1 f1 => ?_)).mono ?_
    · have n1 : ∀ j, w.heap.size ≤ j → ¬ j = B := fun j hj z => by omega
      refine (do38_0 base B d1 w.heap.size (w.heap.size + 1) (w.heap.size + 1 + 1) a n c l w1 i1 (Nat.le_trans (Nat.le_of_lt (Nat.lt_of_le_of_lt h.low (block_lt h.blk))) (Nat.le_trans KW.size k1.size)) (k1.cell x1 (n1 _ (Nat.le_refl _))) (k1.cell x2 (n1 (w.heap.size + 1) (by omega))) (k1.cell x3 (n1 (w.heap.size + 1 + 1) (by omega))) (fun k hk => by have := fl k (by rw [← f1]; exact hk); omega) ((r.kept' KW (fun _ _ z => z)).off k1 (fun k hk z => ?_)) hn (by rw [a1]; exact ok.tick)).mono ?_
      · exact hrB k hk z
      · rintro x w2 ⟨rfl, q⟩
        exact ⟨rfl, q⟩
    · rintro x w2 ⟨rfl, d2, q1, q2, q3⟩
      exact ⟨rfl, d2, q1, (DM.of_kept KW B d).trans q2, q3⟩
  clear h hd hN ok hW KW hB r hn hrB
  go_enter Try.func12, Try.ntmps12
  go_wp2_with fail
  rw [← EW.out]
  refine (look base B d 0 W X.out.1).mono ?_
  rintro x w1 ⟨rfl, rfl⟩
  rw [LE.out]
  go_wp2_with fail
  refine (AC.out _ (Kept.refl _ _)).mono ?_
  rintro x w2 ⟨rfl, q⟩
  have Q : Hid (∃ d', IsD base w2 B d' ∧ DM w w2 B d d' ∧ d'.ab = (d.ab.tick.add 0 l).counted) := q
  clear q
  go_wp2_with fail
  go_ret
  exact ⟨rfl, Q.out⟩
set_option maxRecDepth 100000 in
theorem dAppend_1 (base B : Nat) (d : DK) (a : Option Addr) (n c : Nat) (w : World) (l : List Nat) (h : IsD base w B d) (hd : d.dead = false) (hN : d.named ≠ 1) (ok : d.ab.Ok) (r : Reads w a n c l) (hn : n ≤ Lim) (hrB : ∀ k, blockOf a = some k → k ≠ B) :
    Calls Try.prog 12 #[.pointer (some ⟨B, 0, none⟩), .int .i64 1, .slice a n c] w fun x w' => x = .returned (.int .i64 0) ∧ ∃ d', IsD base w' B d' ∧ DM w w' B d d' ∧ d'.ab = (d.ab.tick.add 1 l).counted := by
  obtain ⟨W, hW⟩ : ∃ W, W = (((w.alloc (.cells #[.pointer (some ⟨B, 0, none⟩)] 27)).alloc (.cells #[.int .i64 1] 3)).alloc (.cells #[.slice a n c] 22)) := ⟨_, rfl⟩
  have EW : Hid (W = (((w.alloc (.cells #[.pointer (some ⟨B, 0, none⟩)] 27)).alloc (.cells #[.int .i64 1] 3)).alloc (.cells #[.slice a n c] 22))) := hW
  have KW : Kept (fun _ => False) w W := by rw [hW]; exact (((Kept.refl _ w).alloc _).alloc _).alloc _
  have hB := block_lt h.blk
  have x1 : W.cell? ⟨w.heap.size, 0, none⟩ = some (.pointer (some ⟨B, 0, none⟩)) := by rw [hW]; exact cells_at (get_alloc (get_alloc (alloc_new _ _)))
  have x2 : W.cell? ⟨w.heap.size + 1, 0, none⟩ = some (.int .i64 1) := by rw [hW]; exact cells_at (get_alloc (alloc_new2 _ _ _ _))
  have x3 : W.cell? ⟨w.heap.size + 1 + 1, 0, none⟩ = some (.slice a n c) := by
    have q := alloc_new (((w.alloc (.cells #[.pointer (some ⟨B, 0, none⟩)] 27)).alloc (.cells #[.int .i64 1] 3))) (.cells #[.slice a n c] 22)
    rw [alloc_size, alloc_size] at q
    rw [hW]
    exact cells_at q
  have LE : Hid (lookE d.ab 1 = 0) := by show lookE d.ab 1 = 0; unfold lookE; rw [if_neg (by show ¬ d.dead = true; rw [hd]; decide), if_pos (by decide)]
  have X : Hid (IsD base W B d ∧ Kept (fun _ => False) w W) := ⟨h.kept0 KW, KW⟩
  have AC : Hid (∀ V : World, Kept (fun _ => False) W V → Calls Try.prog 37 #[.pointer (some ⟨B, 0, none⟩), .func (.func 38) #[] #[.pointer (some ⟨w.heap.size, 0, none⟩), .pointer (some ⟨w.heap.size + 1, 0, none⟩), .pointer (some ⟨w.heap.size + 1 + 1, 0, none⟩)]] V fun x w' => x = .returned (.int .i64 0) ∧ ∃ d', IsD base w' B d' ∧ DM w w' B d d' ∧ d'.ab = (d.ab.tick.add 1 l).counted) := fun V KV => by
    have KW := KW.trans KV (fun _ _ z => z)
    have x1 := KV.cell x1 (fun z => z)
    have x2 := KV.cell x2 (fun z => z)
    have x3 := KV.cell x3 (fun z => z)
    have fl : ∀ k, d.Foot B k → k < w.heap.size := fun k hk => h.lt hk.uses
    refine (act38 base B d w.heap.size (w.heap.size + 1) (w.heap.size + 1 + 1) V (fun A => A.add 1 l) (h.kept0 KW) hd hN ok (fun A => A.add_same 1 l) (fun w1 d1 i1 _ a1 k1 f1 => ?_)).mono ?_
    · have n1 : ∀ j, w.heap.size ≤ j → ¬ j = B := fun j hj z => by omega
      refine (do38_1 base B d1 w.heap.size (w.heap.size + 1) (w.heap.size + 1 + 1) a n c l w1 i1 (Nat.le_trans (Nat.le_of_lt (Nat.lt_of_le_of_lt h.low (block_lt h.blk))) (Nat.le_trans KW.size k1.size)) (k1.cell x1 (n1 _ (Nat.le_refl _))) (k1.cell x2 (n1 (w.heap.size + 1) (by omega))) (k1.cell x3 (n1 (w.heap.size + 1 + 1) (by omega))) (fun k hk => by have := fl k (by rw [← f1]; exact hk); omega) ((r.kept' KW (fun _ _ z => z)).off k1 (fun k hk z => ?_)) hn (by rw [a1]; exact ok.tick)).mono ?_
      · exact hrB k hk z
      · rintro x w2 ⟨rfl, q⟩
        exact ⟨rfl, q⟩
    · rintro x w2 ⟨rfl, d2, q1, q2, q3⟩
      exact ⟨rfl, d2, q1, (DM.of_kept KW B d).trans q2, q3⟩
  clear h hd hN ok hW KW hB r hn hrB
  go_enter Try.func12, Try.ntmps12
  go_wp2_with fail
  rw [← EW.out]
  refine (look base B d 1 W X.out.1).mono ?_
  rintro x w1 ⟨rfl, rfl⟩
  rw [LE.out]
  go_wp2_with fail
  refine (AC.out _ (Kept.refl _ _)).mono ?_
  rintro x w2 ⟨rfl, q⟩
  have Q : Hid (∃ d', IsD base w2 B d' ∧ DM w w2 B d d' ∧ d'.ab = (d.ab.tick.add 1 l).counted) := q
  clear q
  go_wp2_with fail
  go_ret
  exact ⟨rfl, Q.out⟩
set_option maxRecDepth 100000 in
theorem dSync_bad (base B : Nat) (d : DK) (i : Int) (w : World) (h : IsD base w B d) (hl : lookE d.ab i ≠ 0) :
    Calls Try.prog 19 #[.pointer (some ⟨B, 0, none⟩), .int .i64 i] w fun x w' => x = .returned (.int .i64 (lookE d.ab i)) ∧ Kept (fun _ => False) w w' := by
  obtain ⟨W, hW⟩ : ∃ W, W = ((w.alloc (.cells #[.pointer (some ⟨B, 0, none⟩)] 27)).alloc (.cells #[.int .i64 i] 3)) := ⟨_, rfl⟩
  have EW : Hid (W = ((w.alloc (.cells #[.pointer (some ⟨B, 0, none⟩)] 27)).alloc (.cells #[.int .i64 i] 3))) := hW
  have X : Hid (IsD base W B d ∧ Kept (fun _ => False) w W) := by
    have K : Kept (fun _ => False) w W := by rw [hW]; exact ((Kept.refl _ w).alloc _).alloc _
    exact ⟨h.kept0 K, K⟩
  obtain ⟨e, he⟩ : ∃ e, lookE d.ab i = e := ⟨_, rfl⟩
  rw [he] at hl
  have HE : Hid (lookE d.ab i = e) := he
  clear h hW he
  go_enter Try.func19, Try.ntmps19
  go_wp2_with fail
  rw [← EW.out]
  refine (look base B d i W X.out.1).mono ?_
  rintro x w1 ⟨rfl, rfl⟩
  rw [HE.out]
  go_wp2_with fail
  go_ret
  exact ⟨by rw [HE.out]; rfl, X.out.2⟩
set_option maxRecDepth 100000 in
theorem dSync_0 (base B : Nat) (d : DK) (w : World) (h : IsD base w B d) (hd : d.dead = false) (hN : d.named ≠ 1) (ok : d.ab.Ok) :
    Calls Try.prog 19 #[.pointer (some ⟨B, 0, none⟩), .int .i64 0] w fun x w' => x = .returned (.int .i64 0) ∧ ∃ d', IsD base w' B d' ∧ DM w w' B d d' ∧ d'.ab = (d.ab.tick.sync 0).counted := by
  obtain ⟨W, hW⟩ : ∃ W, W = ((w.alloc (.cells #[.pointer (some ⟨B, 0, none⟩)] 27)).alloc (.cells #[.int .i64 0] 3)) := ⟨_, rfl⟩
  have EW : Hid (W = ((w.alloc (.cells #[.pointer (some ⟨B, 0, none⟩)] 27)).alloc (.cells #[.int .i64 0] 3))) := hW
  have KW : Kept (fun _ => False) w W := by rw [hW]; exact ((Kept.refl _ w).alloc _).alloc _
  have hB := block_lt h.blk
  have x1 : W.cell? ⟨w.heap.size, 0, none⟩ = some (.pointer (some ⟨B, 0, none⟩)) := by rw [hW]; exact cells_at (get_alloc (alloc_new _ _))
  have x2 : W.cell? ⟨w.heap.size + 1, 0, none⟩ = some (.int .i64 0) := by rw [hW]; exact cells_at (alloc_new2 _ _ _ _)
  have LE : Hid (lookE d.ab 0 = 0) := by show lookE d.ab 0 = 0; unfold lookE; rw [if_neg (by show ¬ d.dead = true; rw [hd]; decide), if_pos (by decide)]
  have X : Hid (IsD base W B d ∧ Kept (fun _ => False) w W) := ⟨h.kept0 KW, KW⟩
  have AC : Hid (∀ V : World, Kept (fun _ => False) W V → Calls Try.prog 37 #[.pointer (some ⟨B, 0, none⟩), .func (.func 42) #[] #[.pointer (some ⟨w.heap.size, 0, none⟩), .pointer (some ⟨w.heap.size + 1, 0, none⟩)]] V fun x w' => x = .returned (.int .i64 0) ∧ ∃ d', IsD base w' B d' ∧ DM w w' B d d' ∧ d'.ab = (d.ab.tick.sync 0).counted) := fun V KV => by
    have KW := KW.trans KV (fun _ _ z => z)
    have x1 := KV.cell x1 (fun z => z)
    have x2 := KV.cell x2 (fun z => z)
    have fl : ∀ k, d.Foot B k → k < w.heap.size := fun k hk => h.lt hk.uses
    refine (act42 base B d w.heap.size (w.heap.size + 1) V (fun A => A.sync 0) (h.kept0 KW) hd hN ok (fun A => A.sync_same 0) (fun w1 d1 i1 _ a1 k1 f1 => ?_)).mono ?_
    · have n1 : ∀ j, w.heap.size ≤ j → ¬ j = B := fun j hj z => by omega
      refine (do42_0 base B d1 w.heap.size (w.heap.size + 1) w1 i1 (Nat.le_trans (Nat.le_of_lt (Nat.lt_of_le_of_lt h.low (block_lt h.blk))) (Nat.le_trans KW.size k1.size)) (k1.cell x1 (n1 _ (Nat.le_refl _))) (k1.cell x2 (n1 (w.heap.size + 1) (by omega))) (fun k hk => by have := fl k (by rw [← f1]; exact hk); omega) (by rw [a1]; exact ok.tick)).mono ?_
      rintro x w2 ⟨rfl, q⟩
      exact ⟨rfl, q⟩
    · rintro x w2 ⟨rfl, d2, q1, q2, q3⟩
      exact ⟨rfl, d2, q1, (DM.of_kept KW B d).trans q2, q3⟩
  clear h hd hN ok hW KW hB
  go_enter Try.func19, Try.ntmps19
  go_wp2_with fail
  rw [← EW.out]
  refine (look base B d 0 W X.out.1).mono ?_
  rintro x w1 ⟨rfl, rfl⟩
  rw [LE.out]
  go_wp2_with fail
  refine (AC.out _ (Kept.refl _ _)).mono ?_
  rintro x w2 ⟨rfl, q⟩
  have Q : Hid (∃ d', IsD base w2 B d' ∧ DM w w2 B d d' ∧ d'.ab = (d.ab.tick.sync 0).counted) := q
  clear q
  go_wp2_with fail
  go_ret
  exact ⟨rfl, Q.out⟩
set_option maxRecDepth 100000 in
theorem dSync_1 (base B : Nat) (d : DK) (w : World) (h : IsD base w B d) (hd : d.dead = false) (hN : d.named ≠ 1) (ok : d.ab.Ok) :
    Calls Try.prog 19 #[.pointer (some ⟨B, 0, none⟩), .int .i64 1] w fun x w' => x = .returned (.int .i64 0) ∧ ∃ d', IsD base w' B d' ∧ DM w w' B d d' ∧ d'.ab = (d.ab.tick.sync 1).counted := by
  obtain ⟨W, hW⟩ : ∃ W, W = ((w.alloc (.cells #[.pointer (some ⟨B, 0, none⟩)] 27)).alloc (.cells #[.int .i64 1] 3)) := ⟨_, rfl⟩
  have EW : Hid (W = ((w.alloc (.cells #[.pointer (some ⟨B, 0, none⟩)] 27)).alloc (.cells #[.int .i64 1] 3))) := hW
  have KW : Kept (fun _ => False) w W := by rw [hW]; exact ((Kept.refl _ w).alloc _).alloc _
  have hB := block_lt h.blk
  have x1 : W.cell? ⟨w.heap.size, 0, none⟩ = some (.pointer (some ⟨B, 0, none⟩)) := by rw [hW]; exact cells_at (get_alloc (alloc_new _ _))
  have x2 : W.cell? ⟨w.heap.size + 1, 0, none⟩ = some (.int .i64 1) := by rw [hW]; exact cells_at (alloc_new2 _ _ _ _)
  have LE : Hid (lookE d.ab 1 = 0) := by show lookE d.ab 1 = 0; unfold lookE; rw [if_neg (by show ¬ d.dead = true; rw [hd]; decide), if_pos (by decide)]
  have X : Hid (IsD base W B d ∧ Kept (fun _ => False) w W) := ⟨h.kept0 KW, KW⟩
  have AC : Hid (∀ V : World, Kept (fun _ => False) W V → Calls Try.prog 37 #[.pointer (some ⟨B, 0, none⟩), .func (.func 42) #[] #[.pointer (some ⟨w.heap.size, 0, none⟩), .pointer (some ⟨w.heap.size + 1, 0, none⟩)]] V fun x w' => x = .returned (.int .i64 0) ∧ ∃ d', IsD base w' B d' ∧ DM w w' B d d' ∧ d'.ab = (d.ab.tick.sync 1).counted) := fun V KV => by
    have KW := KW.trans KV (fun _ _ z => z)
    have x1 := KV.cell x1 (fun z => z)
    have x2 := KV.cell x2 (fun z => z)
    have fl : ∀ k, d.Foot B k → k < w.heap.size := fun k hk => h.lt hk.uses
    refine (act42 base B d w.heap.size (w.heap.size + 1) V (fun A => A.sync 1) (h.kept0 KW) hd hN ok (fun A => A.sync_same 1) (fun w1 d1 i1 _ a1 k1 f1 => ?_)).mono ?_
    · have n1 : ∀ j, w.heap.size ≤ j → ¬ j = B := fun j hj z => by omega
      refine (do42_1 base B d1 w.heap.size (w.heap.size + 1) w1 i1 (Nat.le_trans (Nat.le_of_lt (Nat.lt_of_le_of_lt h.low (block_lt h.blk))) (Nat.le_trans KW.size k1.size)) (k1.cell x1 (n1 _ (Nat.le_refl _))) (k1.cell x2 (n1 (w.heap.size + 1) (by omega))) (fun k hk => by have := fl k (by rw [← f1]; exact hk); omega) (by rw [a1]; exact ok.tick)).mono ?_
      rintro x w2 ⟨rfl, q⟩
      exact ⟨rfl, q⟩
    · rintro x w2 ⟨rfl, d2, q1, q2, q3⟩
      exact ⟨rfl, d2, q1, (DM.of_kept KW B d).trans q2, q3⟩
  clear h hd hN ok hW KW hB
  go_enter Try.func19, Try.ntmps19
  go_wp2_with fail
  rw [← EW.out]
  refine (look base B d 1 W X.out.1).mono ?_
  rintro x w1 ⟨rfl, rfl⟩
  rw [LE.out]
  go_wp2_with fail
  refine (AC.out _ (Kept.refl _ _)).mono ?_
  rintro x w2 ⟨rfl, q⟩
  have Q : Hid (∃ d', IsD base w2 B d' ∧ DM w w2 B d d' ∧ d'.ab = (d.ab.tick.sync 1).counted) := q
  clear q
  go_wp2_with fail
  go_ret
  exact ⟨rfl, Q.out⟩
set_option maxRecDepth 100000 in
theorem dSwitch_bad (base B : Nat) (d : DK) (i : Int) (w : World) (h : IsD base w B d) (hl : lookE d.ab i ≠ 0) :
    Calls Try.prog 28 #[.pointer (some ⟨B, 0, none⟩), .int .i64 i] w fun x w' => x = .returned (.int .i64 (lookE d.ab i)) ∧ Kept (fun _ => False) w w' := by
  obtain ⟨W, hW⟩ : ∃ W, W = ((w.alloc (.cells #[.pointer (some ⟨B, 0, none⟩)] 27)).alloc (.cells #[.int .i64 i] 3)) := ⟨_, rfl⟩
  have EW : Hid (W = ((w.alloc (.cells #[.pointer (some ⟨B, 0, none⟩)] 27)).alloc (.cells #[.int .i64 i] 3))) := hW
  have X : Hid (IsD base W B d ∧ Kept (fun _ => False) w W) := by
    have K : Kept (fun _ => False) w W := by rw [hW]; exact ((Kept.refl _ w).alloc _).alloc _
    exact ⟨h.kept0 K, K⟩
  obtain ⟨e, he⟩ : ∃ e, lookE d.ab i = e := ⟨_, rfl⟩
  rw [he] at hl
  have HE : Hid (lookE d.ab i = e) := he
  clear h hW he
  go_enter Try.func28, Try.ntmps28
  go_wp2_with fail
  rw [← EW.out]
  refine (look base B d i W X.out.1).mono ?_
  rintro x w1 ⟨rfl, rfl⟩
  rw [HE.out]
  go_wp2_with fail
  go_ret
  exact ⟨by rw [HE.out]; rfl, X.out.2⟩
set_option maxRecDepth 100000 in
theorem dSwitch_0 (base B : Nat) (d : DK) (w : World) (h : IsD base w B d) (hd : d.dead = false) (hN : d.named ≠ 1) (ok : d.ab.Ok) :
    Calls Try.prog 28 #[.pointer (some ⟨B, 0, none⟩), .int .i64 0] w fun x w' => x = .returned (.int .i64 0) ∧ ∃ d', IsD base w' B d' ∧ DM w w' B d d' ∧ d'.ab = (d.ab.tick.switch 0).counted := by
  obtain ⟨W, hW⟩ : ∃ W, W = ((w.alloc (.cells #[.pointer (some ⟨B, 0, none⟩)] 27)).alloc (.cells #[.int .i64 0] 3)) := ⟨_, rfl⟩
  have EW : Hid (W = ((w.alloc (.cells #[.pointer (some ⟨B, 0, none⟩)] 27)).alloc (.cells #[.int .i64 0] 3))) := hW
  have KW : Kept (fun _ => False) w W := by rw [hW]; exact ((Kept.refl _ w).alloc _).alloc _
  have hB := block_lt h.blk
  have x1 : W.cell? ⟨w.heap.size, 0, none⟩ = some (.pointer (some ⟨B, 0, none⟩)) := by rw [hW]; exact cells_at (get_alloc (alloc_new _ _))
  have x2 : W.cell? ⟨w.heap.size + 1, 0, none⟩ = some (.int .i64 0) := by rw [hW]; exact cells_at (alloc_new2 _ _ _ _)
  have LE : Hid (lookE d.ab 0 = 0) := by show lookE d.ab 0 = 0; unfold lookE; rw [if_neg (by show ¬ d.dead = true; rw [hd]; decide), if_pos (by decide)]
  have X : Hid (IsD base W B d ∧ Kept (fun _ => False) w W) := ⟨h.kept0 KW, KW⟩
  have AC : Hid (∀ V : World, Kept (fun _ => False) W V → Calls Try.prog 37 #[.pointer (some ⟨B, 0, none⟩), .func (.func 44) #[] #[.pointer (some ⟨w.heap.size + 1, 0, none⟩), .pointer (some ⟨w.heap.size, 0, none⟩)]] V fun x w' => x = .returned (.int .i64 0) ∧ ∃ d', IsD base w' B d' ∧ DM w w' B d d' ∧ d'.ab = (d.ab.tick.switch 0).counted) := fun V KV => by
    have KW := KW.trans KV (fun _ _ z => z)
    have x1 := KV.cell x1 (fun z => z)
    have x2 := KV.cell x2 (fun z => z)
    have fl : ∀ k, d.Foot B k → k < w.heap.size := fun k hk => h.lt hk.uses
    refine (act44 base B d w.heap.size (w.heap.size + 1) V (fun A => A.switch 0) (h.kept0 KW) hd hN ok (fun A => ⟨rfl, rfl⟩) (fun w1 d1 i1 _ a1 k1 f1 => ?_)).mono ?_
    · have n1 : ∀ j, w.heap.size ≤ j → ¬ j = B := fun j hj z => by omega
      refine (do44_0 base B d1 w.heap.size (w.heap.size + 1) w1 i1 (k1.cell x1 (n1 _ (Nat.le_refl _))) (k1.cell x2 (n1 (w.heap.size + 1) (by omega)))).mono ?_
      rintro x w2 ⟨rfl, q⟩
      exact ⟨rfl, q⟩
    · rintro x w2 ⟨rfl, d2, q1, q2, q3⟩
      exact ⟨rfl, d2, q1, (DM.of_kept KW B d).trans q2, q3⟩
  clear h hd hN ok hW KW hB
  go_enter Try.func28, Try.ntmps28
  go_wp2_with fail
  rw [← EW.out]
  refine (look base B d 0 W X.out.1).mono ?_
  rintro x w1 ⟨rfl, rfl⟩
  rw [LE.out]
  go_wp2_with fail
  refine (AC.out _ (Kept.refl _ _)).mono ?_
  rintro x w2 ⟨rfl, q⟩
  have Q : Hid (∃ d', IsD base w2 B d' ∧ DM w w2 B d d' ∧ d'.ab = (d.ab.tick.switch 0).counted) := q
  clear q
  go_wp2_with fail
  go_ret
  exact ⟨rfl, Q.out⟩
set_option maxRecDepth 100000 in
theorem dSwitch_1 (base B : Nat) (d : DK) (w : World) (h : IsD base w B d) (hd : d.dead = false) (hN : d.named ≠ 1) (ok : d.ab.Ok) :
    Calls Try.prog 28 #[.pointer (some ⟨B, 0, none⟩), .int .i64 1] w fun x w' => x = .returned (.int .i64 0) ∧ ∃ d', IsD base w' B d' ∧ DM w w' B d d' ∧ d'.ab = (d.ab.tick.switch 1).counted := by
  obtain ⟨W, hW⟩ : ∃ W, W = ((w.alloc (.cells #[.pointer (some ⟨B, 0, none⟩)] 27)).alloc (.cells #[.int .i64 1] 3)) := ⟨_, rfl⟩
  have EW : Hid (W = ((w.alloc (.cells #[.pointer (some ⟨B, 0, none⟩)] 27)).alloc (.cells #[.int .i64 1] 3))) := hW
  have KW : Kept (fun _ => False) w W := by rw [hW]; exact ((Kept.refl _ w).alloc _).alloc _
  have hB := block_lt h.blk
  have x1 : W.cell? ⟨w.heap.size, 0, none⟩ = some (.pointer (some ⟨B, 0, none⟩)) := by rw [hW]; exact cells_at (get_alloc (alloc_new _ _))
  have x2 : W.cell? ⟨w.heap.size + 1, 0, none⟩ = some (.int .i64 1) := by rw [hW]; exact cells_at (alloc_new2 _ _ _ _)
  have LE : Hid (lookE d.ab 1 = 0) := by show lookE d.ab 1 = 0; unfold lookE; rw [if_neg (by show ¬ d.dead = true; rw [hd]; decide), if_pos (by decide)]
  have X : Hid (IsD base W B d ∧ Kept (fun _ => False) w W) := ⟨h.kept0 KW, KW⟩
  have AC : Hid (∀ V : World, Kept (fun _ => False) W V → Calls Try.prog 37 #[.pointer (some ⟨B, 0, none⟩), .func (.func 44) #[] #[.pointer (some ⟨w.heap.size + 1, 0, none⟩), .pointer (some ⟨w.heap.size, 0, none⟩)]] V fun x w' => x = .returned (.int .i64 0) ∧ ∃ d', IsD base w' B d' ∧ DM w w' B d d' ∧ d'.ab = (d.ab.tick.switch 1).counted) := fun V KV => by
    have KW := KW.trans KV (fun _ _ z => z)
    have x1 := KV.cell x1 (fun z => z)
    have x2 := KV.cell x2 (fun z => z)
    have fl : ∀ k, d.Foot B k → k < w.heap.size := fun k hk => h.lt hk.uses
    refine (act44 base B d w.heap.size (w.heap.size + 1) V (fun A => A.switch 1) (h.kept0 KW) hd hN ok (fun A => ⟨rfl, rfl⟩) (fun w1 d1 i1 _ a1 k1 f1 => ?_)).mono ?_
    · have n1 : ∀ j, w.heap.size ≤ j → ¬ j = B := fun j hj z => by omega
      refine (do44_1 base B d1 w.heap.size (w.heap.size + 1) w1 i1 (k1.cell x1 (n1 _ (Nat.le_refl _))) (k1.cell x2 (n1 (w.heap.size + 1) (by omega)))).mono ?_
      rintro x w2 ⟨rfl, q⟩
      exact ⟨rfl, q⟩
    · rintro x w2 ⟨rfl, d2, q1, q2, q3⟩
      exact ⟨rfl, d2, q1, (DM.of_kept KW B d).trans q2, q3⟩
  clear h hd hN ok hW KW hB
  go_enter Try.func28, Try.ntmps28
  go_wp2_with fail
  rw [← EW.out]
  refine (look base B d 1 W X.out.1).mono ?_
  rintro x w1 ⟨rfl, rfl⟩
  rw [LE.out]
  go_wp2_with fail
  refine (AC.out _ (Kept.refl _ _)).mono ?_
  rintro x w2 ⟨rfl, q⟩
  have Q : Hid (∃ d', IsD base w2 B d' ∧ DM w w2 B d d' ∧ d'.ab = (d.ab.tick.switch 1).counted) := q
  clear q
  go_wp2_with fail
  go_ret
  exact ⟨rfl, Q.out⟩
set_option maxRecDepth 100000 in
theorem dWipe_bad (base B : Nat) (d : DK) (i : Int) (w : World) (h : IsD base w B d) (hl : lookE d.ab i ≠ 0) :
    Calls Try.prog 29 #[.pointer (some ⟨B, 0, none⟩), .int .i64 i] w fun x w' => x = .returned (.int .i64 (lookE d.ab i)) ∧ Kept (fun _ => False) w w' := by
  obtain ⟨W, hW⟩ : ∃ W, W = ((w.alloc (.cells #[.pointer (some ⟨B, 0, none⟩)] 27)).alloc (.cells #[.int .i64 i] 3)) := ⟨_, rfl⟩
  have EW : Hid (W = ((w.alloc (.cells #[.pointer (some ⟨B, 0, none⟩)] 27)).alloc (.cells #[.int .i64 i] 3))) := hW
  have X : Hid (IsD base W B d ∧ Kept (fun _ => False) w W) := by
    have K : Kept (fun _ => False) w W := by rw [hW]; exact ((Kept.refl _ w).alloc _).alloc _
    exact ⟨h.kept0 K, K⟩
  obtain ⟨e, he⟩ : ∃ e, lookE d.ab i = e := ⟨_, rfl⟩
  rw [he] at hl
  have HE : Hid (lookE d.ab i = e) := he
  clear h hW he
  go_enter Try.func29, Try.ntmps29
  go_wp2_with fail
  rw [← EW.out]
  refine (look base B d i W X.out.1).mono ?_
  rintro x w1 ⟨rfl, rfl⟩
  rw [HE.out]
  go_wp2_with fail
  go_ret
  exact ⟨by rw [HE.out]; rfl, X.out.2⟩
set_option maxRecDepth 100000 in
theorem dWipe_0 (base B : Nat) (d : DK) (w : World) (h : IsD base w B d) (hd : d.dead = false) (hN : d.named ≠ 1) (ok : d.ab.Ok) (hc : d.cur ≠ 0) :
    Calls Try.prog 29 #[.pointer (some ⟨B, 0, none⟩), .int .i64 0] w fun x w' => x = .returned (.int .i64 0) ∧ ∃ d', IsD base w' B d' ∧ DM w w' B d d' ∧ d'.ab = (d.ab.tick.more 0 none).counted := by
  obtain ⟨W, hW⟩ : ∃ W, W = ((w.alloc (.cells #[.pointer (some ⟨B, 0, none⟩)] 27)).alloc (.cells #[.int .i64 0] 3)) := ⟨_, rfl⟩
  have EW : Hid (W = ((w.alloc (.cells #[.pointer (some ⟨B, 0, none⟩)] 27)).alloc (.cells #[.int .i64 0] 3))) := hW
  have KW : Kept (fun _ => False) w W := by rw [hW]; exact ((Kept.refl _ w).alloc _).alloc _
  have hB := block_lt h.blk
  have x1 : W.cell? ⟨w.heap.size, 0, none⟩ = some (.pointer (some ⟨B, 0, none⟩)) := by rw [hW]; exact cells_at (get_alloc (alloc_new _ _))
  have x2 : W.cell? ⟨w.heap.size + 1, 0, none⟩ = some (.int .i64 0) := by rw [hW]; exact cells_at (alloc_new2 _ _ _ _)
  have LE : Hid (lookE d.ab 0 = 0) := by show lookE d.ab 0 = 0; unfold lookE; rw [if_neg (by show ¬ d.dead = true; rw [hd]; decide), if_pos (by decide)]
  have X : Hid (IsD base W B d ∧ Kept (fun _ => False) w W) := ⟨h.kept0 KW, KW⟩
  have AC : Hid (∀ V : World, Kept (fun _ => False) W V → Calls Try.prog 37 #[.pointer (some ⟨B, 0, none⟩), .func (.func 45) #[] #[.pointer (some ⟨w.heap.size, 0, none⟩), .pointer (some ⟨w.heap.size + 1, 0, none⟩)]] V fun x w' => x = .returned (.int .i64 0) ∧ ∃ d', IsD base w' B d' ∧ DM w w' B d d' ∧ d'.ab = (d.ab.tick.more 0 none).counted) := fun V KV => by
    have KW := KW.trans KV (fun _ _ z => z)
    have x1 := KV.cell x1 (fun z => z)
    have x2 := KV.cell x2 (fun z => z)
    have fl : ∀ k, d.Foot B k → k < w.heap.size := fun k hk => h.lt hk.uses
    refine (act45 base B d w.heap.size (w.heap.size + 1) V (fun A => A.more 0 none) (h.kept0 KW) hd hN ok (fun A => A.more_same 0 none) (fun w1 d1 i1 _ a1 k1 f1 => ?_)).mono ?_
    · have n1 : ∀ j, w.heap.size ≤ j → ¬ j = B := fun j hj z => by omega
      refine (do45_0 base B d1 w.heap.size (w.heap.size + 1) w1 i1 (Nat.le_trans (Nat.le_of_lt (Nat.lt_of_le_of_lt h.low (block_lt h.blk))) (Nat.le_trans KW.size k1.size)) (k1.cell x1 (n1 _ (Nat.le_refl _))) (k1.cell x2 (n1 (w.heap.size + 1) (by omega))) (fun k hk => by have := fl k (by rw [← f1]; exact hk); omega) (by rw [a1]; exact ok.tick)).mono ?_
      rintro x w2 ⟨rfl, q⟩
      exact ⟨rfl, q⟩
    · rintro x w2 ⟨rfl, d2, q1, q2, q3⟩
      exact ⟨rfl, d2, q1, (DM.of_kept KW B d).trans q2, q3⟩
  have c4 : W.cell? ⟨B, 4, none⟩ = some (.int .i64 (d.cur : Int)) := X.out.1.cell 4 rfl
  have hcb : ((0 : Int) == (d.cur : Int)) = false := by simp; omega
  have hci : ¬ ((0 : Int) = (d.cur : Int)) := by omega
  clear h hd hN ok hW KW hB hc
  go_enter Try.func29, Try.ntmps29
  go_wp2_with fail
  rw [← EW.out]
  refine (look base B d 0 W X.out.1).mono ?_
  rintro x w1 ⟨rfl, rfl⟩
  rw [LE.out]
  go_wp2_with fail
  go_quiet (fail)
  go_wp2_with fail
  refine (AC.out _ ((Kept.refl _ _).drewN nq)).mono ?_
  rintro x w2 ⟨rfl, q⟩
  have Q : Hid (∃ d', IsD base w2 B d' ∧ DM w w2 B d d' ∧ d'.ab = (d.ab.tick.more 0 none).counted) := q
  clear q
  go_wp2_with fail
  go_ret
  exact ⟨rfl, Q.out⟩
set_option maxRecDepth 100000 in
theorem dWipe_1 (base B : Nat) (d : DK) (w : World) (h : IsD base w B d) (hd : d.dead = false) (hN : d.named ≠ 1) (ok : d.ab.Ok) (hc : d.cur ≠ 1) :
    Calls Try.prog 29 #[.pointer (some ⟨B, 0, none⟩), .int .i64 1] w fun x w' => x = .returned (.int .i64 0) ∧ ∃ d', IsD base w' B d' ∧ DM w w' B d d' ∧ d'.ab = (d.ab.tick.more 1 none).counted := by
  obtain ⟨W, hW⟩ : ∃ W, W = ((w.alloc (.cells #[.pointer (some ⟨B, 0, none⟩)] 27)).alloc (.cells #[.int .i64 1] 3)) := ⟨_, rfl⟩
  have EW : Hid (W = ((w.alloc (.cells #[.pointer (some ⟨B, 0, none⟩)] 27)).alloc (.cells #[.int .i64 1] 3))) := hW
  have KW : Kept (fun _ => False) w W := by rw [hW]; exact ((Kept.refl _ w).alloc _).alloc _
  have hB := block_lt h.blk
  have x1 : W.cell? ⟨w.heap.size, 0, none⟩ = some (.pointer (some ⟨B, 0, none⟩)) := by rw [hW]; exact cells_at (get_alloc (alloc_new _ _))
  have x2 : W.cell? ⟨w.heap.size + 1, 0, none⟩ = some (.int .i64 1) := by rw [hW]; exact cells_at (alloc_new2 _ _ _ _)
  have LE : Hid (lookE d.ab 1 = 0) := by show lookE d.ab 1 = 0; unfold lookE; rw [if_neg (by show ¬ d.dead = true; rw [hd]; decide), if_pos (by decide)]
  have X : Hid (IsD base W B d ∧ Kept (fun _ => False) w W) := ⟨h.kept0 KW, KW⟩
  have AC : Hid (∀ V : World, Kept (fun _ => False) W V → Calls Try.prog 37 #[.pointer (some ⟨B, 0, none⟩), .func (.func 45) #[] #[.pointer (some ⟨w.heap.size, 0, none⟩), .pointer (some ⟨w.heap.size + 1, 0, none⟩)]] V fun x w' => x = .returned (.int .i64 0) ∧ ∃ d', IsD base w' B d' ∧ DM w w' B d d' ∧ d'.ab = (d.ab.tick.more 1 none).counted) := fun V KV => by
    have KW := KW.trans KV (fun _ _ z => z)
    have x1 := KV.cell x1 (fun z => z)
    have x2 := KV.cell x2 (fun z => z)
    have fl : ∀ k, d.Foot B k → k < w.heap.size := fun k hk => h.lt hk.uses
    refine (act45 base B d w.heap.size (w.heap.size + 1) V (fun A => A.more 1 none) (h.kept0 KW) hd hN ok (fun A => A.more_same 1 none) (fun w1 d1 i1 _ a1 k1 f1 => ?_)).mono ?_
    · have n1 : ∀ j, w.heap.size ≤ j → ¬ j = B := fun j hj z => by omega
      refine (do45_1 base B d1 w.heap.size (w.heap.size + 1) w1 i1 (Nat.le_trans (Nat.le_of_lt (Nat.lt_of_le_of_lt h.low (block_lt h.blk))) (Nat.le_trans KW.size k1.size)) (k1.cell x1 (n1 _ (Nat.le_refl _))) (k1.cell x2 (n1 (w.heap.size + 1) (by omega))) (fun k hk => by have := fl k (by rw [← f1]; exact hk); omega) (by rw [a1]; exact ok.tick)).mono ?_
      rintro x w2 ⟨rfl, q⟩
      exact ⟨rfl, q⟩
    · rintro x w2 ⟨rfl, d2, q1, q2, q3⟩
      exact ⟨rfl, d2, q1, (DM.of_kept KW B d).trans q2, q3⟩
  have c4 : W.cell? ⟨B, 4, none⟩ = some (.int .i64 (d.cur : Int)) := X.out.1.cell 4 rfl
  have hcb : ((1 : Int) == (d.cur : Int)) = false := by simp; omega
  have hci : ¬ ((1 : Int) = (d.cur : Int)) := by omega
  clear h hd hN ok hW KW hB hc
  go_enter Try.func29, Try.ntmps29
  go_wp2_with fail
  rw [← EW.out]
  refine (look base B d 1 W X.out.1).mono ?_
  rintro x w1 ⟨rfl, rfl⟩
  rw [LE.out]
  go_wp2_with fail
  go_quiet (fail)
  go_wp2_with fail
  refine (AC.out _ ((Kept.refl _ _).drewN nq)).mono ?_
  rintro x w2 ⟨rfl, q⟩
  have Q : Hid (∃ d', IsD base w2 B d' ∧ DM w w2 B d d' ∧ d'.ab = (d.ab.tick.more 1 none).counted) := q
  clear q
  go_wp2_with fail
  go_ret
  exact ⟨rfl, Q.out⟩
set_option maxRecDepth 100000 in
theorem dWipe_cur0 (base B : Nat) (d : DK) (w : World) (h : IsD base w B d) (hd : d.dead = false) (hc : d.cur = 0) :
    Calls Try.prog 29 #[.pointer (some ⟨B, 0, none⟩), .int .i64 0] w fun x w' => x = .returned (.int .i64 61) ∧ Kept (fun _ => False) w w' := by
  obtain ⟨W, hW⟩ : ∃ W, W = ((w.alloc (.cells #[.pointer (some ⟨B, 0, none⟩)] 27)).alloc (.cells #[.int .i64 0] 3)) := ⟨_, rfl⟩
  have EW : Hid (W = ((w.alloc (.cells #[.pointer (some ⟨B, 0, none⟩)] 27)).alloc (.cells #[.int .i64 0] 3))) := hW
  have KW : Kept (fun _ => False) w W := by rw [hW]; exact ((Kept.refl _ w).alloc _).alloc _
  have x1 : W.cell? ⟨w.heap.size, 0, none⟩ = some (.pointer (some ⟨B, 0, none⟩)) := by rw [hW]; exact cells_at (get_alloc (alloc_new _ _))
  have x2 : W.cell? ⟨w.heap.size + 1, 0, none⟩ = some (.int .i64 0) := by rw [hW]; exact cells_at (alloc_new2 _ _ _ _)
  have LE : Hid (lookE d.ab 0 = 0) := by show lookE d.ab 0 = 0; unfold lookE; rw [if_neg (by show ¬ d.dead = true; rw [hd]; decide), if_pos (by decide)]
  have X : Hid (IsD base W B d ∧ Kept (fun _ => False) w W) := ⟨h.kept0 KW, KW⟩
  have c4 : W.cell? ⟨B, 4, none⟩ = some (.int .i64 0) := by
    have q := X.out.1.cell 4 (v := .int .i64 (d.cur : Int)) rfl
    rw [hc] at q
    exact q
  clear h hd hW KW hc
  go_enter Try.func29, Try.ntmps29
  go_wp2_with fail
  rw [← EW.out]
  refine (look base B d 0 W X.out.1).mono ?_
  rintro x w1 ⟨rfl, rfl⟩
  rw [LE.out]
  go_wp2_with fail
  go_quiet (fail)
  go_wp2_with fail
  go_ret
  exact ⟨rfl, X.out.2.drewN nq⟩
set_option maxRecDepth 100000 in
theorem dWipe_cur1 (base B : Nat) (d : DK) (w : World) (h : IsD base w B d) (hd : d.dead = false) (hc : d.cur = 1) :
    Calls Try.prog 29 #[.pointer (some ⟨B, 0, none⟩), .int .i64 1] w fun x w' => x = .returned (.int .i64 61) ∧ Kept (fun _ => False) w w' := by
  obtain ⟨W, hW⟩ : ∃ W, W = ((w.alloc (.cells #[.pointer (some ⟨B, 0, none⟩)] 27)).alloc (.cells #[.int .i64 1] 3)) := ⟨_, rfl⟩
  have EW : Hid (W = ((w.alloc (.cells #[.pointer (some ⟨B, 0, none⟩)] 27)).alloc (.cells #[.int .i64 1] 3))) := hW
  have KW : Kept (fun _ => False) w W := by rw [hW]; exact ((Kept.refl _ w).alloc _).alloc _
  have x1 : W.cell? ⟨w.heap.size, 0, none⟩ = some (.pointer (some ⟨B, 0, none⟩)) := by rw [hW]; exact cells_at (get_alloc (alloc_new _ _))
  have x2 : W.cell? ⟨w.heap.size + 1, 0, none⟩ = some (.int .i64 1) := by rw [hW]; exact cells_at (alloc_new2 _ _ _ _)
  have LE : Hid (lookE d.ab 1 = 0) := by show lookE d.ab 1 = 0; unfold lookE; rw [if_neg (by show ¬ d.dead = true; rw [hd]; decide), if_pos (by decide)]
  have X : Hid (IsD base W B d ∧ Kept (fun _ => False) w W) := ⟨h.kept0 KW, KW⟩
  have c4 : W.cell? ⟨B, 4, none⟩ = some (.int .i64 1) := by
    have q := X.out.1.cell 4 (v := .int .i64 (d.cur : Int)) rfl
    rw [hc] at q
    exact q
  clear h hd hW KW hc
  go_enter Try.func29, Try.ntmps29
  go_wp2_with fail
  rw [← EW.out]
  refine (look base B d 1 W X.out.1).mono ?_
  rintro x w1 ⟨rfl, rfl⟩
  rw [LE.out]
  go_wp2_with fail
  go_quiet (fail)
  go_wp2_with fail
  go_ret
  exact ⟨rfl, X.out.2.drewN nq⟩
end Go.Proofs.Ytbnnmelkbjkkjaa
