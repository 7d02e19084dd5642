import Derived.Test.YtojfnehdanhgiaaBundle
namespace Go.Proofs.Ytojfnehdanhgiaa
open Go.RowKit

/-- The datagram that 'right' makes. -/
def rightP (i : Nat) (d : List Nat) : Pk := ⟨2, 1 + (i : Int) % 9, 1, (i : Int) % 5, d.take 300, (i : Int) % 7 == 3⟩
theorem rightP_from (i : Nat) (d : List Nat) : isN (rightP i d).fk (rightP i d).fi = true := by
  show isN 2 (1 + (i : Int) % 9) = true
  unfold isN
  rw [if_neg (by decide), if_pos rfl]
  exact decide_eq_true ⟨by omega, by omega⟩
theorem rightP_to (i : Nat) (d : List Nat) : isN (rightP i d).tk (rightP i d).ti = true := by
  show isN 1 ((i : Int) % 5) = true
  unfold isN
  rw [if_pos rfl]
  exact decide_eq_true ⟨by omega, by omega⟩
/-- What is left behind the store of the bytes and of the result. -/
theorem right_out {w W w3 : World} {i : Nat} {d : List Nat} {p : Option Addr} {m c : Nat} (KW : Kept (fun _ => False) w W) (b1 : Box W w.heap.size (.int .i64 0) (.int .i64 0) (.int .i64 0) (.int .i64 0) (.slice none 0 0) (.bool false)) (z : W.heap.size = w.heap.size + 2)
    (K3 : Kept (fun _ => False) W w3) (ho : w3.ownsRow W.heap.size 5 1 (.slice p m c) m (cellsOf (d.take 300))) (hb : ∀ c ∈ d, c < 256) (hm : m ≤ 300) (g1 g2 g3 g4 g5 g6 : Value) :
    Box ((((((((w3.setCell ⟨w.heap.size + 1, 4, none⟩ (.slice p m c)).setCell ⟨w.heap.size, 0, none⟩ g1).setCell ⟨w.heap.size, 1, none⟩ g2).setCell ⟨w.heap.size, 2, none⟩ g3).setCell ⟨w.heap.size, 3, none⟩ g4).setCell ⟨w.heap.size, 4, none⟩ g5).setCell ⟨w.heap.size, 5, none⟩ g6)) w.heap.size g1 g2 g3 g4 g5 g6 ∧
    Good w.heap.size ((((((((w3.setCell ⟨w.heap.size + 1, 4, none⟩ (.slice p m c)).setCell ⟨w.heap.size, 0, none⟩ g1).setCell ⟨w.heap.size, 1, none⟩ g2).setCell ⟨w.heap.size, 2, none⟩ g3).setCell ⟨w.heap.size, 3, none⟩ g4).setCell ⟨w.heap.size, 4, none⟩ g5).setCell ⟨w.heap.size, 5, none⟩ g6)) ⟨rightP i d, p, m, c⟩ ∧
    Kept (fun _ => False) w ((((((((w3.setCell ⟨w.heap.size + 1, 4, none⟩ (.slice p m c)).setCell ⟨w.heap.size, 0, none⟩ g1).setCell ⟨w.heap.size, 1, none⟩ g2).setCell ⟨w.heap.size, 2, none⟩ g3).setCell ⟨w.heap.size, 3, none⟩ g4).setCell ⟨w.heap.size, 4, none⟩ g5).setCell ⟨w.heap.size, 5, none⟩ g6)) := by
  have K5 : Kept (fun k => k < w.heap.size + 2) w3 (w3.setCell ⟨w.heap.size + 1, 4, none⟩ (.slice p m c)) := (Kept.refl _ w3).setCell (fun _ => show w.heap.size + 1 < w.heap.size + 2 by omega) _
  have K6 := K5.set6 (b := w.heap.size) (fun _ => show w.heap.size < w.heap.size + 2 by omega) g1 g2 g3 g4 g5 g6
  refine ⟨((b1.kept K3 (fun q => q)).setAt _ _ (by omega)).set _ _ _ _ _ _, ⟨owns_mono (K6.owns ho (fun k hk q => ?_)) KW.size, fun c hc => hb c (List.mem_of_mem_take hc), by show m ≤ 66000; omega⟩, ((KW.trans K3 (fun _ _ q => q)).setCell (p := ⟨w.heap.size + 1, 4, none⟩) (fun q => absurd q (by simp)) _).set6 (fun q => absurd q (by omega)) _ _ _ _ _ _⟩
  have := (ho.lt k hk).1
  have q : k < w.heap.size + 2 := q
  omega
set_option maxRecDepth 100000 in
set_option maxHeartbeats 1000000 in
theorem right_case (i : Nat) (hi : i ≤ Big) (a : Option Addr) (len cap : Nat) (d : List Nat) (w : World) (r : Reads w a len cap d) (m : Nat) (hm : (len ≤ 300 ∧ m = len) ∨ (300 < len ∧ m = 300)) :
    Calls Try.prog 26 #[.int .i64 (i : Int), .slice a len cap] w fun x w' => ∃ e : Ent, e.p = rightP i d ∧ x = .returned (.agg #[.int .i64 e.p.fk, .int .i64 e.p.fi, .int .i64 e.p.tk, .int .i64 e.p.ti, .slice e.a e.len e.cap, .bool e.p.lost]) ∧ Good w.heap.size w' e ∧ Kept (fun _ => False) w w' := by
  have hl := r.length
  have hr := r.room
  have hs := r.small
  have hi' : i ≤ 2199023255552 := hi
  have EM : Hid (d.take m = d.take 300 ∧ (∀ c ∈ d, c < 256)) := by
    refine ⟨?_, r.bytes⟩
    rcases hm with ⟨h1, h2⟩ | ⟨h1, h2⟩
    · rw [h2, List.take_of_length_le (by omega), List.take_of_length_le (by omega)]
    · rw [h2]
  have hml : m ≤ len := by omega
  have hm3 : m ≤ 300 := by omega
  obtain ⟨W1, hW1⟩ : ∃ W1, W1 = w.alloc (.cells #[.int .i64 0, .int .i64 0, .int .i64 0, .int .i64 0, .slice none 0 0, .bool false] 39) := ⟨_, rfl⟩
  obtain ⟨W, hW⟩ : ∃ W, W = W1.alloc (.cells #[.int .i64 2, .int .i64 (1 + (i : Int) % 9), .int .i64 1, .int .i64 ((i : Int) % 5), .slice none 0 0, .bool ((i : Int) % 7 == 3)] 39) := ⟨_, rfl⟩
  have z1 : W1.heap.size = w.heap.size + 1 := by rw [hW1]; exact alloc_size _ _
  have z2 : W.heap.size = w.heap.size + 2 := by rw [hW, alloc_size, z1]
  have KW : Kept (fun _ => False) w W := by rw [hW, hW1]; exact ((Kept.refl _ w).alloc _).alloc _
  have b1 : Box W w.heap.size (.int .i64 0) (.int .i64 0) (.int .i64 0) (.int .i64 0) (.slice none 0 0) (.bool false) := by unfold Box; rw [hW]; exact alloc_old _ (by rw [hW1]; exact alloc_new _ _)
  have b2 : Box W (w.heap.size + 1) (.int .i64 2) (.int .i64 (1 + (i : Int) % 9)) (.int .i64 1) (.int .i64 ((i : Int) % 5)) (.slice none 0 0) (.bool ((i : Int) % 7 == 3)) := by unfold Box; rw [hW, ← z1]; exact alloc_new _ _
  have SR : Hid (Src Try.prog 1 30 (.slice a m cap) m (cellsOf (d.take m)) W) := ((r.take m hml).kept' KW (fun _ _ q => q)).src
  have HB : Hid (Kept (fun _ => False) w W ∧ W.heap.size = w.heap.size + 2 ∧ Box W w.heap.size (.int .i64 0) (.int .i64 0) (.int .i64 0) (.int .i64 0) (.slice none 0 0) (.bool false) ∧ Box W (w.heap.size + 1) (.int .i64 2) (.int .i64 (1 + (i : Int) % 9)) (.int .i64 1) (.int .i64 ((i : Int) % 5)) (.slice none 0 0) (.bool ((i : Int) % 7 == 3))) := ⟨KW, z2, b1, b2⟩
  have EW : Hid (W = (w.alloc (.cells #[.int .i64 0, .int .i64 0, .int .i64 0, .int .i64 0, .slice none 0 0, .bool false] 39)).alloc (.cells #[.int .i64 2, .int .i64 (1 + (i : Int) % 9), .int .i64 1, .int .i64 ((i : Int) % 5), .slice none 0 0, .bool ((i : Int) % 7 == 3)] 39)) := by show W = _; rw [hW, hW1]
  unfold maxLen at hs
  clear r hW hW1 z1 z2 b1 b2 KW
  rcases hm with ⟨h1, h2⟩ | ⟨h1, h2⟩
  · subst h2
    have h3 : ¬ 300 < m := by omega
    have h4 : ¬ (300 : Int) < (m : Int) := by omega
    go_enter Try.func26, Try.ntmps26
    go_wp2_with (first | (at_builtin; rw [← EW.out]; refine wpList_append_bytes _ rfl (.tmp 27) (.tmp 28) rfl W.heap.size (.slice none 0 0) 0 [] rfl (World.ownsRow_nil _ _ _ _) (.slice a m cap) m (d.take m) rfl SR.out (by omega) (Nat.le_refl _) ?_; intro p c w3 ho hg nr; rw [Nat.zero_add] at ho ⊢; rw [List.nil_append] at ho; have K3 : Kept (fun _ => False) W w3 := (Kept.refl (fun _ => False) W).grown hg.out (fun k hk q => by simp [Value.ownBlock] at q); obtain ⟨e1, e2, e3, e4, e5, e6, e7⟩ := cell6 _ _ _ _ _ _ _ _ (HB.out.2.2.2.kept K3 (fun q => q)); obtain ⟨g1, g2, g3, g4, g5, g6, g7⟩ := cell6 _ _ _ _ _ _ _ _ (HB.out.2.2.1.kept K3 (fun q => q)); have KH : Hid (Kept (fun _ => False) W w3) := K3; clear K3) | fail)
    (try simp only [Exit.inBlock, Exit.then])
    obtain ⟨B3, G3, K3⟩ := right_out (i := i) HB.out.1 HB.out.2.2.1 HB.out.2.1 KH.out (by rw [← EM.out.1]; exact ho.out) EM.out.2 hm3 (.int .i64 2) (.int .i64 (1 + (i : Int) % 9)) (.int .i64 1) (.int .i64 ((i : Int) % 5)) (.slice p m c) (.bool ((i : Int) % 7 == 3))
    exact bodyPost_ret (results_pk rfl _ _ w.heap.size _ _ _ _ _ _ rfl B3) rfl ⟨⟨rightP i d, p, m, c⟩, rfl, rfl, G3, K3⟩
  · subst h2
    have h4 : (300 : Int) < (len : Int) := by omega
    have h5 : 300 ≤ cap := by omega
    go_enter Try.func26, Try.ntmps26
    go_wp2_with (first | (at_builtin; rw [← EW.out]; refine wpList_append_bytes _ rfl (.tmp 27) (.tmp 28) rfl W.heap.size (.slice none 0 0) 0 [] rfl (World.ownsRow_nil _ _ _ _) (.slice a 300 cap) 300 (d.take 300) rfl SR.out (by omega) (Nat.le_refl _) ?_; intro p c w3 ho hg nr; rw [Nat.zero_add] at ho ⊢; rw [List.nil_append] at ho; have K3 : Kept (fun _ => False) W w3 := (Kept.refl (fun _ => False) W).grown hg.out (fun k hk q => by simp [Value.ownBlock] at q); obtain ⟨e1, e2, e3, e4, e5, e6, e7⟩ := cell6 _ _ _ _ _ _ _ _ (HB.out.2.2.2.kept K3 (fun q => q)); obtain ⟨g1, g2, g3, g4, g5, g6, g7⟩ := cell6 _ _ _ _ _ _ _ _ (HB.out.2.2.1.kept K3 (fun q => q)); have KH : Hid (Kept (fun _ => False) W w3) := K3; clear K3) | fail)
    (try simp only [Exit.inBlock, Exit.then])
    obtain ⟨B3, G3, K3⟩ := right_out (i := i) HB.out.1 HB.out.2.2.1 HB.out.2.1 KH.out ho.out EM.out.2 hm3 (.int .i64 2) (.int .i64 (1 + (i : Int) % 9)) (.int .i64 1) (.int .i64 ((i : Int) % 5)) (.slice p 300 c) (.bool ((i : Int) % 7 == 3))
    exact bodyPost_ret (results_pk rfl _ _ w.heap.size _ _ _ _ _ _ rfl B3) rfl ⟨⟨rightP i d, p, 300, c⟩, rfl, rfl, G3, K3⟩
theorem right (i : Nat) (hi : i ≤ Big) (a : Option Addr) (len cap : Nat) (d : List Nat) (w : World) (r : Reads w a len cap d) :
    Calls Try.prog 26 #[.int .i64 (i : Int), .slice a len cap] w fun x w' => ∃ e : Ent, e.p = rightP i d ∧ x = .returned (.agg #[.int .i64 e.p.fk, .int .i64 e.p.fi, .int .i64 e.p.tk, .int .i64 e.p.ti, .slice e.a e.len e.cap, .bool e.p.lost]) ∧ Good w.heap.size w' e ∧ Kept (fun _ => False) w w' := by
  by_cases h : len ≤ 300
  · exact right_case i hi a len cap d w r len (.inl ⟨h, rfl⟩)
  · exact right_case i hi a len cap d w r 300 (.inr ⟨by omega, rfl⟩)
end Go.Proofs.Ytojfnehdanhgiaa
